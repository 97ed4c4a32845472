"""Reading what is written as hookcarts.notation writes it."""

from hookcarts.carts import cart_of, couple
from hookcarts.errors import NoText
from hookcarts.heaps import Heap
from hookcarts.kinds import is_kind, is_number
from hookcarts.longtrains import is_train
from hookcarts.yard import is_deed

_DIGITS = "0123456789"
_MOST_DIGITS = 60


def read_cart(text):
    """Return the cart that is written so; raise NoText(0)."""
    cart = _cart_in(text)
    if cart is None:
        raise NoText(0)
    return cart


def read_step(text):
    """Return the step that is written so; raise NoText(0)."""
    step = _step_in(text)
    if step is None:
        raise NoText(0)
    return step


def read_row(text):
    """Return the row that is written so; raise NoText with the index of the first word that is wrong."""
    row = []
    for index, word in enumerate(text.split(" ")):
        step = _step_in(word)
        if step is None or (row and not couple(row[-1], step)):
            raise NoText(index)
        row.append(step)
    return row


def read_train(text):
    """Return the train that is written so; raise NoText with the index of the first item that is wrong."""
    train = []
    for index, item in enumerate(text.split("; ")):
        part = _part_in(item)
        if part is None or (train and not couple(train[-1][1][-1], part[1][0])):
            raise NoText(index)
        train.append(part)
    return train


def read_heap(text):
    """Return the Heap that is written so; raise NoText with the index of the first item that is wrong."""
    items = text.split("; ") if text else []
    numbers = {}
    ahead = None
    for index, item in enumerate(items):
        number, cart = _number_and_cart_in(item)
        if not is_number(1, number) or cart is None or (ahead is not None and cart <= ahead):
            raise NoText(index)
        numbers[cart] = number
        ahead = cart
    return Heap(numbers)


def read_deed(text):
    """Return the deed that is written so; raise NoText(0)."""
    deed = deed_in(text)
    if deed is None:
        raise NoText(0)
    return deed


def deed_in(text):
    """Return the deed that is written so, or None."""
    word, _, told = text.partition(" ")
    deed = (word, *_told_in(word, told))
    return deed if is_deed(deed) else None


def number_in(word):
    """Return the number from 0 on that is written so, or None."""
    if not 1 <= len(word) <= _MOST_DIGITS or not all([sign in _DIGITS for sign in word]):
        return None
    return None if word[0] == "0" and word != "0" else int(word)


def _told_in(word, text):
    """Return the list of what is written behind the word of a deed; what can't be read is None."""
    if word == "lay":
        parts = [_part_in(item) for item in text.split("; ")]
        return [parts]
    if word in ("put", "out"):
        number, cart = _number_and_cart_in(text)
        return [cart, number]
    return [number_in(one) for one in text.split(" ")]


def _step_in(word):
    """Return the step that is written so, or None."""
    for sign in ("-", ">"):
        one, _, other = word.partition(sign)
        if is_kind(one) and is_kind(other):
            turns = sign == "-"
            return (cart_of(one, other, turns=turns), turns and one > other)
    return None


def _cart_in(word):
    """Return the cart that is written so, or None."""
    step = _step_in(word)
    return None if step is None or step[1] else step[0]


def _part_in(item):
    """Return the part of a train that is written so, or None."""
    many, _, text = item.partition(" ")
    part = (number_in(many), [_step_in(word) for word in text.split(" ")])
    return part if is_train([part]) else None


def _number_and_cart_in(item):
    """Return a tuple of the number and the cart that are written so, None for what is not."""
    number, _, cart = item.partition(" ")
    return (number_in(number), _cart_in(cart))
