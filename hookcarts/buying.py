"""The cheapest adapters that make one train, and bills that show that no cheaper ones do."""

from hookcarts.carts import cart_of
from hookcarts.errors import NoAdapters
from hookcarts.heaps import Heap
from hookcarts.kinds import is_integer, is_kind
from hookcarts.shops import least_of, open_ways, price_of, shown_price
from hookcarts.turnings import balances, spread, turnable

# An arc is a tuple (first, last, price, room, cart). It can take 2 from the balance of first to that of last, up to
# room times: one cart that leads from first to last is turned for nothing, or two more of an adapter lead from last to
# first. How often each arc is used stands in a list beside the list of the arcs; what was taken can be taken back.


def cheapest(heap, shop):
    """Return a good purchase with the least price; raise NoAdapters() if there is none."""
    found = [cheapest_by(heap, shop, way, ends) for way, ends in open_ways(heap, shop)]
    good = [purchase for purchase in found if purchase is not None]
    if not good:
        raise NoAdapters()
    return min(good, key=lambda purchase: price_of(shop, purchase))


def cheapest_by(heap, shop, way, ends):
    """Return a purchase with the least price that goes a way and makes a train with these ends, or None."""
    closed = _closed(heap, shop, way, ends)
    arcs = _arcs(closed, shop, way)
    used, stuck = _used(arcs, balances(closed, {}))
    if stuck:
        return None
    numbers = least_of(shop, way)
    for (_, _, _, _, cart), times in zip(arcs, used):
        if cart in numbers:
            numbers[cart] = numbers[cart] + 2 * times
    return numbers


def bill(heap, shop, price):
    """Return a bill for a price, or None if there is none."""
    found = []
    for way, ends in open_ways(heap, shop):
        worths = _worths(heap, shop, way, ends, price)
        if shown_price(heap, shop, way, ends, worths) < price:
            return None
        found.append((way, ends, worths))
    return found


def is_bill(heap, shop, price, thing):
    """Return whether thing is a bill for a price."""
    if not isinstance(thing, list) or not all([_is_line(line) for line in thing]):
        return False
    if [(way, ends) for way, ends, _ in thing] != open_ways(heap, shop):
        return False
    shown = [shown_price(heap, shop, way, ends, worths) for way, ends, worths in thing]
    return all([told is not None and told >= price for told in shown])


def _is_line(thing):
    """Return whether thing is a tuple (way, ends, worths) with integers in the way, and with worths."""
    if not isinstance(thing, tuple) or len(thing) != 3:
        return False
    way, _, worths = thing
    if not isinstance(way, tuple) or not isinstance(worths, dict):
        return False
    # Python takes True for 1, so the form of the numbers is looked at here.
    if not all([is_integer(number) for number in way]):
        return False
    return all([is_kind(kind) and is_integer(worths[kind]) for kind in worths])


def _worths(heap, shop, way, ends, price):
    """Return worths that show the greatest price for an open (way, ends), or this price if there is no greatest."""
    closed = _closed(heap, shop, way, ends)
    arcs = _arcs(closed, shop, way)
    used, stuck = _used(arcs, balances(closed, {}))
    if stuck:
        # All carts that turn lead into these kinds, no adapter leads into them, and still more carts lead from them.
        return {kind: price if kind in stuck else 0 for kind in closed.kinds()}
    reached = _reached(_moves(arcs, used), closed.kinds())
    return {kind: -reached[kind][0] for kind in closed.kinds()}


def _closed(heap, shop, way, ends):
    """Return the heap with the least purchase of a way, and a cart that makes a ring of a train with these ends."""
    whole = heap + Heap(least_of(shop, way))
    if ends == ():
        return whole
    first, last = ends
    return whole.put(cart_of(last, first))


def _arcs(closed, shop, way):
    """Return the list of the arcs if no cart is turned and the numbers of a way are bought."""
    found = [(cart[0], cart[1], 0, closed[cart], None) for cart in turnable(closed)]
    # More than all balances need, so that these arcs always have room.
    room = spread(closed, {}) + 1
    for (cart, price), number in zip(shop, way):
        front, back, turns = cart
        if number > 0:
            found.append((back, front, price, room, cart))
            if turns:
                found.append((front, back, price, room, cart))
    return found


def _used(arcs, balance):
    """Return how often each arc is used if all balances are made 0 for the least price, and an empty list.

    If they can't be made so, the list tells the kinds to which what is left can be taken.
    """
    left = {kind: balance[kind] for kind in balance}
    used = [0 for _ in arcs]
    path, reached = _cheapest_path(arcs, used, left)
    while path:
        first, last = path[0][0], path[-1][1]
        rooms = [arcs[index][3] - used[index] if along else used[index] for _, _, _, index, along in path]
        many = min([*rooms, left[first] // 2, -left[last] // 2])
        for _, _, _, index, along in path:
            used[index] = used[index] + (many if along else -many)
        left[first] = left[first] - 2 * many
        left[last] = left[last] + 2 * many
        path, reached = _cheapest_path(arcs, used, left)
    return used, reached


def _cheapest_path(arcs, used, left):
    """Return the cheapest list of moves from a balance above 0 to one below 0, and the list of all kinds reached.

    Of several that cost the same it is one of the shortest. The first list is empty if there is none.
    """
    reached = _reached(_moves(arcs, used), [kind for kind in left if left[kind] > 0])
    goals = [kind for kind in reached if left[kind] < 0]
    if not goals:
        return [], list(reached)
    path = []
    move = reached[min(goals, key=lambda kind: reached[kind][:2])][2]
    while move is not None:
        path.append(move)
        move = reached[move[0]][2]
    return path[::-1], list(reached)


def _moves(arcs, used):
    """Return the list of the moves that have room: tuples (first, last, price, index of an arc, along it or back)."""
    found = []
    for index, (first, last, price, room, _) in enumerate(arcs):
        if used[index] < room:
            found.append((first, last, price, index, True))
        if used[index] > 0:
            found.append((last, first, -price, index, False))
    return found


def _reached(moves, starts):
    """Return the dict from the kinds that moves reach to tuples (price, steps, move) of the cheapest way from a start.

    The last item is the move that comes to the kind, None for a start.
    """
    found = {kind: (0, 0, None) for kind in starts}
    changed = True
    while changed:
        changed = False
        for move in moves:
            first, last, price, _, _ = move
            if first in found:
                told = (found[first][0] + price, found[first][1] + 1)
                if last not in found or told < found[last][:2]:
                    found[last] = (*told, move)
                    changed = True
    return found
