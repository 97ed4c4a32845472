"""Rows: lists of steps, each of which couples to the one ahead."""

from hookcarts.carts import about, begin_of, couple, end_of
from hookcarts.errors import Fixed
from hookcarts.kinds import is_step


def is_row(thing):
    """Return whether thing is a row."""
    if not isinstance(thing, list) or len(thing) == 0:
        return False
    if not all([is_step(step) for step in thing]):
        return False
    return all([couple(step, other) for step, other in zip(thing, thing[1:])])


def row_ends(row):
    """Return the tuple of the kinds from which and to which a row leads."""
    return (begin_of(row[0]), end_of(row[-1]))


def carts_in(row):
    """Return the dict of the numbers of the carts of a row, ascending."""
    found = {}
    for cart, _ in row:
        found[cart] = found.get(cart, 0) + 1
    return {cart: found[cart] for cart in sorted(found)}


def first_fixed(row):
    """Return the index of the first step whose cart is fixed, or None."""
    for index, (cart, _) in enumerate(row):
        if not cart[2]:
            return index
    return None


def row_about(row):
    """Return the row turned about as a whole; raise Fixed(index) for its first fixed cart."""
    index = first_fixed(row)
    if index is not None:
        raise Fixed(index)
    return [about(step) for step in row[::-1]]
