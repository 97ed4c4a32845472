"""Which heaps are alike for all that may be added."""

from hookcarts.carts import cart_of
from hookcarts.fewest import fewest
from hookcarts.heaps import Heap
from hookcarts.strains import all_sides, strain
from hookcarts.turnings import balances, turnable


def alike(one, other):
    """Return whether two heaps go into equally few trains with each further heap."""
    if _lots_of_kinds(one) != _lots_of_kinds(other) or _fixed_balances(one) != _fixed_balances(other):
        return False
    return _turning_numbers(one) == _turning_numbers(other)


def telling(one, other):
    """Return a Heap with which the two go into unequally few trains, or None if they are alike."""
    if not alike(one, other):
        for further in _furthers(one, other):
            if fewest(one + further) != fewest(other + further):
                return further
    return None


def _lots_of_kinds(heap):
    """Return the list of the lists of the kinds of the lots."""
    return [lot.kinds() for lot in heap.lots()]


def _fixed_balances(heap):
    """Return the dict from the kinds of a heap to their balances, if only the fixed carts are counted."""
    fixed = Heap({cart: heap[cart] for cart in heap if not cart[2]})
    found = balances(fixed, {})
    return {kind: found.get(kind, 0) for kind in heap.kinds()}


def _turning_numbers(heap):
    """Return the dict from the carts that turn and have two different kinds to their numbers."""
    return {cart: heap[cart] for cart in turnable(heap)}


def _furthers(one, other):
    """Return the list of Heaps of which one at least tells two heaps apart that are not alike."""
    kinds = sorted(set(one.kinds()) | set(other.kinds()))
    # So many of each cart outweigh all that the two heaps can add to a strain.
    many = 8 * (one.count() + other.count() + 1)
    for highs, lows in all_sides(kinds):
        if len(highs) + len(lows) == len(kinds) and strain(one, highs, lows) != strain(other, highs, lows):
            return [_pulling(highs, lows, many)]
    # Only the lots differ now, and the same kinds are odd in both. If the kinds of a lot are joined, and all others,
    # the heap goes into two trains; a cart of the other heap that leads out of the lot makes one train of them. If the
    # other heap has none of the lot, it goes into one train fewer as soon as all other kinds are joined.
    found = []
    for lot in [*one.lots(), *other.lots()]:
        inside = lot.kinds()
        outside = [kind for kind in kinds if kind not in inside]
        rest = _joining(outside, one.odd(), many)
        found.extend([rest + _joining(inside, one.odd(), many), rest])
    return found


def _pulling(highs, lows, many):
    """Return the Heap of so many carts from highs to lows that no other highs and lows have a greater strain."""
    pairs = [*[(highs[0], low) for low in lows], *[(high, lows[0]) for high in highs]]
    return Heap({cart_of(high, low): many for high, low in pairs})


def _joining(kinds, odd, many):
    """Return the Heap that makes one lot of kinds, with so many carts of each two, after which no kind is odd."""
    carts = {cart_of(kind, kind, turns=True): many for kind in kinds[:1]}
    for index, (kind, other) in enumerate(zip(kinds, kinds[1:])):
        ahead = [passed for passed in kinds[:index + 1] if passed in odd]
        carts[cart_of(kind, other, turns=True)] = many + len(ahead) % 2
    return Heap(carts)
