"""How carts, steps, rows, trains, heaps and deeds are written."""

from hookcarts.carts import begin_of, end_of


def cart_text(cart):
    """Return a cart as it is written."""
    return step_text((cart, False))


def step_text(step):
    """Return a step as it is written."""
    sign = "-" if step[0][2] else ">"
    return f"{begin_of(step)}{sign}{end_of(step)}"


def row_text(row):
    """Return a row as it is written."""
    return " ".join([step_text(step) for step in row])


def train_text(train):
    """Return a train as it is written."""
    return "; ".join([f"{many} {row_text(row)}" for many, row in train])


def heap_text(heap):
    """Return a heap as it is written."""
    return "; ".join([f"{heap[cart]} {cart_text(cart)}" for cart in heap])


def deed_text(deed):
    """Return a deed as it is written."""
    word = deed[0]
    if word in ("put", "out"):
        return f"{word} {deed[2]} {cart_text(deed[1])}"
    if word == "lay":
        return f"{word} {train_text(deed[1])}"
    return " ".join([word, *[str(number) for number in deed[1:]]])
