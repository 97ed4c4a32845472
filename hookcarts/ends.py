"""Which kinds stand at ends."""

from hookcarts.lots import lot_of
from hookcarts.strains import all_sides, greatest, strain
from hookcarts.trains import turning_led


def ends(heap):
    """Return the ascending list of the ends (tuples), each once, of all trains of all carts of a heap."""
    kinds = heap.kinds()
    return [(first, last) for first in kinds for last in kinds if turning_led(heap, first, last) is not None]


def least_ends(heap, kind):
    """Return the least number of ends that a split of a heap has at a kind; raise NoKind(kind)."""
    lot = lot_of(heap, kind)
    if len(lot.kinds()) == 1:
        return 2
    beside = [cart for cart in lot if kind in cart[:2] and cart[0] != cart[1]]
    leading = sum([lot[cart] if kind == cart[0] else -lot[cart] for cart in beside if not cart[2]])
    turning = sum([lot[cart] for cart in beside if cart[2]])
    return max(lot.hooks(kind) % 2, abs(leading) - turning)


def always_ends(heap):
    """Return the ascending list of the kinds at which each split of a heap has ends."""
    return [kind for kind in heap.kinds() if least_ends(heap, kind) > 0]


def most_begins(heap, kind):
    """Return the greatest number of trains that begin at a kind in a split into the fewest; raise NoKind(kind)."""
    lot = lot_of(heap, kind)
    most = greatest(lot)
    if most == 0:
        return 1
    sides = [(highs, lows) for highs, lows in all_sides(lot.kinds()) if kind not in highs]
    return min([_begins_shown(lot, kind, most - strain(lot, highs, lows), lows) for highs, lows in sides])


def most_ends(heap, kind):
    """Return the greatest number of trains that end at a kind in a split into the fewest; raise NoKind(kind)."""
    # Trains end where they would begin if front and back of all fixed carts were exchanged.
    return most_begins(heap.about(), kind)


def _begins_shown(lot, kind, room, lows):
    """Return how many trains at most begin at a kind that is not high, by highs and lows with a strain.

    So much room is between the strain and the greatest one.
    """
    if kind in lows:
        return room // 2
    return room + lot.hooks(kind) % 2
