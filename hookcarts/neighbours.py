"""Which carts can stand beside each other in a train of all carts."""

from hookcarts.carts import begin_of, cart_of, couple, end_of, steps_of
from hookcarts.fewest import fewest
from hookcarts.heaps import Heap
from hookcarts.rows import carts_in, row_ends
from hookcarts.trains import led, one_train, turning_led


def held(heap, row):
    """Return the Heap with one fixed cart in the place of a row; raise Missing(cart)."""
    first, last = row_ends(row)
    return _without(heap, row).put(cart_of(first, last))


def fewest_with(heap, row):
    """Return the least number of trains of a split in which a row stands in one of them; raise Missing(cart)."""
    return fewest(held(heap, row))


def can_stand(heap, row):
    """Return whether a row stands in some train of all carts; raise Missing(cart)."""
    return fewest_with(heap, row) == 1


def standing(heap, row):
    """Return a train of all carts in which a row stands, or None; raise Missing(cart)."""
    train = one_train(held(heap, row))
    if train is None:
        return None
    first, last = row_ends(row)
    return _with_row(train, (cart_of(first, last), False), row)


def begun(heap, row):
    """Return a train of all carts that begins with a row, or None; raise Missing(cart)."""
    rest = _without(heap, row)
    if len(rest) == 0:
        return [(1, list(row))]
    for kind in rest.kinds():
        train = led(rest, row_ends(row)[1], kind)
        if train is not None:
            return [(1, list(row)), *train]
    return None


def goes_on(heap, row):
    """Return the ascending list of the steps that, behind a row, begin a train of all carts; raise Missing(cart)."""
    rest = _without(heap, row)
    last = row_ends(row)[1]
    steps = [step for cart in rest for step in steps_of(cart) if begin_of(step) == last]
    return [step for step in steps if _can_go_on(rest.out(step[0]), end_of(step))]


def couples(heap):
    """Return the ascending list of the tuples (step, other) that stand so in some train of all carts."""
    steps = [step for cart in heap for step in steps_of(cart)]
    pairs = [(step, other) for step in steps for other in steps if couple(step, other)]
    return [pair for pair in pairs if _has_carts(heap, list(pair)) and can_stand(heap, list(pair))]


def first_place(train, row):
    """Return the least index in the long row of a train from which on a row stands in it, or None."""
    steps = []
    places = []
    passed = 0
    for many, part in train:
        # A row that stands within a part stands there from the first copy on; one that reaches beyond the part begins
        # in one of the last copies. So all others are left out.
        kept = min(many, len(row) // len(part) + 2)
        steps.extend(kept * part)
        places.extend([passed + index for index in range(len(part))])
        passed = passed + many * len(part)
        places.extend([passed - back for back in range((kept - 1) * len(part), 0, -1)])
    for index, place in enumerate(places):
        if steps[index:index + len(row)] == row:
            return place
    return None


def _without(heap, row):
    """Return the Heap without the carts of a row; raise Missing(cart) with the least cart of which it has too few."""
    return heap - Heap(carts_in(row))


def _with_row(train, step, row):
    """Return the train with a row, as a part of its own, in the place of a step that stands in it."""
    index = [step in steps for _, steps in train].index(True)
    many, steps = train[index]
    place = steps.index(step)
    parts = [(1, steps[:place]), (1, list(row)), (1, steps[place + 1:]), (many - 1, steps)]
    return [*train[:index], *[part for part in parts if part[0] > 0 and len(part[1]) > 0], *train[index + 1:]]


def _can_go_on(rest, kind):
    """Return whether the rest of the carts, if there are any, makes a train that begins at a kind."""
    return len(rest) == 0 or any([turning_led(rest, kind, last) is not None for last in rest.kinds()])


def _has_carts(heap, row):
    """Return whether a heap has the carts of a row."""
    return Heap(carts_in(row)).is_within(heap)
