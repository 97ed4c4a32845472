"""What is known of a heap: ranges of the numbers of its carts."""

from hookcarts.errors import NoCart, NoRange, Wrong
from hookcarts.heaps import Heap
from hookcarts.kinds import is_cart, is_integer, is_number


class Known:
    """What is known of a heap, told by a dict from carts to ranges (least, most); it never changes."""

    def __init__(self, ranges):
        if not _are_ranges(ranges):
            raise Wrong(0)
        self._ranges = {cart: ranges[cart] for cart in sorted(ranges)}

    def __len__(self):
        return len(self._ranges)

    def __iter__(self):
        return iter(self._ranges)

    def __contains__(self, x):
        return is_cart(x) and x in self._ranges

    def __getitem__(self, at):
        if not is_cart(at):
            raise NoCart(at)
        return _range_of(self._ranges, at)

    def __eq__(self, other):
        return isinstance(other, Known) and self._ranges == other._ranges

    def __and__(self, other):
        return Known(_common_ranges(self._ranges, other._ranges))

    def fits(self, heap):
        """Return whether a heap fits."""
        return all([self[cart][0] <= heap[cart] <= self[cart][1] for cart in [*heap, *self]])

    def narrowed(self, cart, least, most):
        """Return the Known of the heaps that fit and have from least to most of a cart.

        Raise NoCart(cart), Wrong(1), Wrong(2), or NoRange(cart) if no heap is left.
        """
        if cart not in self:
            raise NoCart(cart)
        if not is_integer(least):
            raise Wrong(1)
        if not is_integer(most):
            raise Wrong(2)
        return Known(_common_ranges(self._ranges, {**self._ranges, cart: (least, most)}))

    def leasts(self):
        """Return the Heap of all least numbers."""
        return Heap({cart: self._ranges[cart][0] for cart in self._ranges if self._ranges[cart][0] > 0})

    def mosts(self):
        """Return the Heap of all greatest numbers."""
        return Heap({cart: self._ranges[cart][1] for cart in self._ranges})

    def how_many(self):
        """Return how many heaps fit."""
        product = 1
        for least, most in self._ranges.values():
            product = product * (most - least + 1)
        return product

    def kinds(self):
        """Return the ascending list of the kinds."""
        return self.mosts().kinds()


# Operators may call the functions from here on, so these change nothing.


def _are_ranges(thing):
    """Return whether thing is a dict from carts to ranges, at least one of which has a least from 1 on."""
    if not isinstance(thing, dict):
        return False
    if not all([is_cart(cart) and _is_range(thing[cart]) for cart in thing]):
        return False
    return any([thing[cart][0] > 0 for cart in thing])


def _is_range(thing):
    """Return whether thing is a tuple (least, most) that is a range."""
    if not isinstance(thing, tuple) or len(thing) != 2:
        return False
    least, most = thing
    return is_number(0, least) and is_number(1, most) and least <= most


def _range_of(ranges, cart):
    """Return the range of a cart, (0, 0) if it has none."""
    return ranges[cart] if cart in ranges else (0, 0)


def _common_ranges(one, other):
    """Return the dict of the ranges of the numbers that fit both; raise NoRange(cart) where there is none."""
    common = {cart: _common_range(_range_of(one, cart), _range_of(other, cart)) for cart in sorted([*one, *other])}
    for cart in common:
        least, most = common[cart]
        if least > most:
            raise NoRange(cart)
    return {cart: common[cart] for cart in common if common[cart][1] > 0}


def _common_range(one, other):
    """Return the tuple of the least and the greatest number that fit both; the one is greater if none does."""
    return (max(one[0], other[0]), min(one[1], other[1]))
