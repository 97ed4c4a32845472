"""Turnings: how many of the carts that turn are turned, and what balances this leaves."""

from hookcarts.kinds import has_two_steps, is_cart, is_number


def is_turning(heap, thing):
    """Return whether thing is a turning of a heap."""
    carts = turnable(heap)
    if not isinstance(thing, dict) or len(thing) != len(carts):
        return False
    # Python finds ("a", "b", True) in a dict with ("a", "b", 1), so the form of the keys is looked at first.
    if not all([is_cart(cart) for cart in thing]):
        return False
    return all([cart in thing and is_number(0, thing[cart]) and thing[cart] <= heap[cart] for cart in carts])


def turnable(heap):
    """Return the ascending list of the carts of a heap that turn and have two different kinds."""
    return [cart for cart in heap if has_two_steps(cart)]


def balances(heap, turning):
    """Return the dict from the kinds of a heap to their balances."""
    found = {kind: 0 for kind in heap.kinds()}
    for cart in heap:
        front, back, _ = cart
        leading = heap[cart] - 2 * turning.get(cart, 0)
        found[front] = found[front] + leading
        found[back] = found[back] - leading
    return found


def spread(heap, turning):
    """Return the spread of a turning."""
    return sum([abs(balance) for balance in balances(heap, turning).values()])


def best_turning(heap):
    """Return a turning of the least spread."""
    carts = turnable(heap)
    balance = balances(heap, {})
    leading = leading_numbers(heap, {})
    # The first round leaves no way from a balance above 0 to one of at most -2. The second one opens none again: it
    # only brings what is left from 2 on to kinds with -1, each of which it changes once.
    for least, most in [(1, -2), (2, -1)]:
        path = _path(balance, leading, least, most)
        while path:
            _turn(balance, leading, path)
            path = _path(balance, leading, least, most)
    return {cart: leading[(cart[1], cart[0])] for cart in carts}


def leading_numbers(heap, turning):
    """Return the dict from tuples (first, last) of kinds to how many carts that turn lead from the one to the other."""
    leading = {}
    for cart in turnable(heap):
        turned = turning.get(cart, 0)
        leading[(cart[0], cart[1])] = heap[cart] - turned
        leading[(cart[1], cart[0])] = turned
    return leading


def _path(balance, leading, least, most):
    """Return the shortest list of kinds along which carts lead from a balance from least on to one of at most most.

    The list is empty if there is none.
    """
    ahead = {kind: None for kind in balance if balance[kind] >= least}
    queue = list(ahead)
    done = 0
    while done < len(queue):
        kind = queue[done]
        if balance[kind] <= most:
            return _path_to(ahead, kind)
        reached = [last for last in balance if last not in ahead and leading.get((kind, last), 0) > 0]
        for last in reached:
            ahead[last] = kind
        queue.extend(reached)
        done = done + 1
    return []


def _path_to(ahead, last):
    """Return the list of kinds that leads to the last one, ahead telling of each the one ahead of it."""
    path = []
    kind = last
    while kind is not None:
        path.append(kind)
        kind = ahead[kind]
    return path[::-1]


def _turn(balance, leading, path):
    """Turn as many carts along a path as change no sign, but at least one of each two kinds."""
    first, last = path[0], path[-1]
    pairs = list(zip(path, path[1:]))
    room = min([leading[pair] for pair in pairs])
    many = max(1, min(room, balance[first] // 2, -balance[last] // 2))
    for one, other in pairs:
        leading[(one, other)] = leading[(one, other)] - many
        leading[(other, one)] = leading[(other, one)] + many
    balance[first] = balance[first] - 2 * many
    balance[last] = balance[last] + 2 * many
