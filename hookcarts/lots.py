"""Lots: which kinds of a heap hang together, and by which carts."""

from hookcarts.errors import NoKind
from hookcarts.heaps import Heap, first_kinds
from hookcarts.kinds import is_kind


def hang(heap, one, other):
    """Return whether two kinds hang together; raise NoKind for the first one that is no kind of the heap."""
    _check_kinds(heap, [one, other])
    firsts = first_kinds(heap.carts())
    return firsts[one] == firsts[other]


def lot_of(heap, kind):
    """Return the lot with a kind, a Heap; raise NoKind(kind) if it is no kind of the heap."""
    _check_kinds(heap, [kind])
    firsts = first_kinds(heap.carts())
    return Heap({cart: heap[cart] for cart in heap if firsts[cart[0]] == firsts[kind]})


def links(heap, one, other):
    """Return the shortest list of carts that links two kinds, of several the least, or None; raise NoKind."""
    _check_kinds(heap, [one, other])
    beside = _carts_beside(heap)
    ways = _ways_back(beside, other)
    if one not in ways:
        return None
    found = []
    kind = one
    while kind != other:
        nearer = [cart for cart in beside[kind] if _far(ways, _across(cart, kind)) < _far(ways, kind)]
        least = min(nearer)
        found.append(least)
        kind = _across(least, kind)
    return found


def is_links(heap, one, other, thing):
    """Return whether thing is a list of carts of the heap that links two kinds; raise NoKind."""
    _check_kinds(heap, [one, other])
    if not isinstance(thing, list):
        return False
    kind = one
    for cart in thing:
        if cart not in heap or kind not in cart[:2]:
            return False
        kind = _across(cart, kind)
    return kind == other


def is_cut(heap, thing):
    """Return whether thing is a list of some kinds of the heap, not all, with which no other kind hangs together."""
    kinds = heap.kinds()
    if not isinstance(thing, list) or not 0 < len(thing) < len(kinds):
        return False
    inside = {kind: False for kind in kinds}
    for kind in thing:
        if not is_kind(kind) or kind not in inside or inside[kind]:
            return False
        inside[kind] = True
    return all([inside[cart[0]] == inside[cart[1]] for cart in heap])


def holding(heap):
    """Return the ascending list of the carts of two kinds that would not hang together without them."""
    ways = _all_ways_back(heap)
    needed = {ways[kind][1]: True for kind in ways}
    drawn = {kind: kind for kind in ways}
    for cart in heap:
        if cart not in needed:
            _draw_together(ways, drawn, cart[0], cart[1])
    return sorted([ways[kind][1] for kind in ways if drawn[kind] == kind and ways[kind][1] is not None])


def _check_kinds(heap, things):
    """Raise NoKind for the first one of the things that is no kind of the heap."""
    kinds = heap.kinds()
    for thing in things:
        if not is_kind(thing) or thing not in kinds:
            raise NoKind(thing)


def _across(cart, kind):
    """Return the kind to which a cart leads from one of its kinds."""
    return cart[1] if kind == cart[0] else cart[0]


def _carts_beside(heap):
    """Return the dict from the kinds to the lists of the carts that have this kind and another one."""
    beside = {kind: [] for kind in heap.kinds()}
    for cart in heap:
        front, back, _ = cart
        if front != back:
            beside[front].append(cart)
            beside[back].append(cart)
    return beside


def _ways_back(beside, start):
    """Return the dict from each kind that hangs together with start to its way back there.

    A way is a tuple of the least number of carts that link the two, the first of these carts, and the kind to which
    it leads; (0, None, None) for start.
    """
    ways = {start: (0, None, None)}
    queue = [start]
    done = 0
    while done < len(queue):
        kind = queue[done]
        for cart in beside[kind]:
            reached = _across(cart, kind)
            if reached not in ways:
                ways[reached] = (_far(ways, kind) + 1, cart, kind)
                queue.append(reached)
        done = done + 1
    return ways


def _all_ways_back(heap):
    """Return the dict of the ways back of all kinds, each to one kind of its lot."""
    beside = _carts_beside(heap)
    ways = {}
    for kind in beside:
        if kind not in ways:
            found = _ways_back(beside, kind)
            for reached in found:
                ways[reached] = found[reached]
    return ways


def _far(ways, kind):
    """Return by how many carts a kind is away from the start."""
    return ways[kind][0]


def _draw_together(ways, drawn, one, other):
    """Draw all kinds of the ring of two kinds, their ways back and one more cart into the nearest one of them.

    None of the carts of the ring holds it together; as its kinds are one from now on, no way is walked twice.
    """
    left, right = _nearest(drawn, one), _nearest(drawn, other)
    while left != right:
        if _far(ways, left) < _far(ways, right):
            left, right = right, left
        drawn[left] = ways[left][2]
        left = _nearest(drawn, left)


def _nearest(drawn, kind):
    """Return the kind into which a kind was drawn, and shorten the search for the next time."""
    at = kind
    while drawn[at] != at:
        drawn[at] = drawn[drawn[at]]
        at = drawn[at]
    return at
