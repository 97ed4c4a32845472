"""Strains: what highs and lows show of a heap."""

from hookcarts.errors import Both


def strain(heap, highs, lows):
    """Return the strain of highs and lows in a heap; raise Both with the least kind that is in both."""
    both = sorted(set(highs) & set(lows))
    if both:
        raise Both(both[0])
    return _strain_of(heap.carts(), heap.odd(), highs, lows)


def greatest(heap):
    """Return the greatest strain of all highs and lows."""
    highs, lows = worst(heap)
    return strain(heap, highs, lows)


def worst(heap):
    """Return a tuple (highs, lows) of two ascending tuples of kinds with the greatest strain."""
    carts, odd = heap.carts(), heap.odd()
    return max(all_sides(heap.kinds()), key=lambda sides: _strain_of(carts, odd, sides[0], sides[1]))


def all_sides(kinds):
    """Return the list of all tuples (highs, lows) of two tuples of kinds without a common one, in their order."""
    found = [((), ())]
    for kind in kinds:
        found = [longer for highs, lows in found
                 for longer in [(highs, lows), ((*highs, kind), lows), (highs, (*lows, kind))]]
    return found


def _strain_of(carts, odd, highs, lows):
    """Return the strain in the heap with these numbers of carts and these odd kinds."""
    worths = _worths(highs, lows)
    total = len([kind for kind in odd if kind not in worths])
    for cart in carts:
        front, back, turns = cart
        difference = worths.get(front, 0) - worths.get(back, 0)
        total = total + carts[cart] * (-abs(difference) if turns else difference)
    return total


def _worths(highs, lows):
    """Return the dict of the worths of highs and lows."""
    worths = {}
    for kind in highs:
        worths[kind] = 1
    for kind in lows:
        worths[kind] = -1
    return worths
