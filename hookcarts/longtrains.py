"""Trains: lists of parts (many, row), which stand for long rows that may be too long to be written."""

from hookcarts.carts import couple
from hookcarts.errors import Fixed, Loose, NoPlace
from hookcarts.kinds import is_number
from hookcarts.rows import carts_in, first_fixed, is_row, row_about, row_ends


def is_train(thing):
    """Return whether thing is a train."""
    if not isinstance(thing, list) or len(thing) == 0:
        return False
    if not all([_is_part(part) for part in thing]):
        return False
    return all([_parts_couple(part, other) for part, other in zip(thing, thing[1:])])


def _is_part(thing):
    """Return whether thing is a tuple (many, row) that may be part of a train."""
    if not isinstance(thing, tuple) or len(thing) != 2:
        return False
    many, row = thing
    if not is_number(1, many) or not is_row(row):
        return False
    return many == 1 or couple(row[-1], row[0])


def _parts_couple(part, other):
    """Return whether the row of other leads from the kind to which that of part leads."""
    return couple(part[1][-1], other[1][0])


def train_ends(train):
    """Return the tuple of the kinds from which and to which a train leads."""
    return (row_ends(train[0][1])[0], row_ends(train[-1][1])[1])


def carts_of(train):
    """Return the dict of the numbers of the carts in the long row of a train, ascending."""
    found = {}
    for many, row in train:
        numbers = carts_in(row)
        for cart in numbers:
            found[cart] = found.get(cart, 0) + many * numbers[cart]
    return {cart: found[cart] for cart in sorted(found)}


def length(train):
    """Return how many steps the long row of a train has."""
    return sum([many * len(row) for many, row in train])


def step_at(train, index):
    """Return the step with an index in the long row; raise NoPlace(index) if it has no such index."""
    return stretch(train, index, 1)[0]


def stretch(train, first, many):
    """Return the list of the many steps from first on; raise NoPlace(first) if the long row has not so many."""
    if not is_number(0, first) or first + many > length(train):
        raise NoPlace(first)
    found = []
    skipped = first
    for times, row in train:
        size = times * len(row)
        taken = min(many - len(found), size - skipped)
        start = skipped % len(row)
        found.extend([row[(start + index) % len(row)] for index in range(taken)])
        skipped = max(0, skipped - size)
    return found


def joined(one, other):
    """Return the train of one with other behind it; raise Loose() if they do not couple."""
    if not _parts_couple(one[-1], other[0]):
        raise Loose()
    return [(many, list(row)) for many, row in [*one, *other]]


def train_about(train):
    """Return the train turned about as a whole; raise Fixed(index) for the first fixed cart of its long row."""
    passed = 0
    for many, row in train:
        index = first_fixed(row)
        if index is not None:
            raise Fixed(passed + index)
        passed = passed + many * len(row)
    return [(many, row_about(row)) for many, row in train[::-1]]
