"""Into how few trains a heap goes."""

from hookcarts.strains import greatest, strain


def fewest(heap):
    """Return the least number of trains into which a heap goes."""
    return sum([max(1, greatest(lot) // 2) for lot in heap.lots()])


def shown(heap, highs, lows):
    """Return the number of trains that highs and lows show to be needed; raise Both as strain does."""
    # A kind in both is an error too if the heap has no lots at all.
    strain(heap, highs, lows)
    return sum([max(1, strain(lot, highs, lows) // 2) for lot in heap.lots()])
