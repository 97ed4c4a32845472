"""Rounds: rows that come back to the kind from which they lead, and pass no kind twice."""

from hookcarts.carts import begin_of, end_of
from hookcarts.errors import Loose
from hookcarts.kinds import is_number
from hookcarts.rows import is_row, row_ends
from hookcarts.turnings import balances, spread


def is_round(thing):
    """Return whether thing is a round."""
    if not is_row(thing):
        return False
    first, last = row_ends(thing)
    return first == last and len({begin_of(step) for step in thing}) == len(thing)


def rounds(heap, turning):
    """Return a list of tuples (times, round) of all carts, turned as told; raise Loose() if the spread is not 0."""
    if spread(heap, turning) != 0:
        raise Loose()
    return rows_through(heap, turning)


def is_rounds(heap, turning, thing):
    """Return whether thing is a list of tuples (times, round) of all carts of a heap, turned as a turning tells."""
    if not isinstance(thing, list) or not all([_is_times_and_round(pair) for pair in thing]):
        return False
    found = {}
    for times, row in thing:
        for step in row:
            found[step] = found.get(step, 0) + times
    return found == step_numbers(heap, turning)


def rows_through(heap, turning):
    """Return a list of tuples (times, row) of all carts of a heap, turned as a turning tells.

    Each row is a round, or passes no kind twice and leads from a kind with a balance above 0 to one with a balance
    below 0; there are only so many of these as the balances ask for.
    """
    left = step_numbers(heap, turning)
    balance = balances(heap, turning)
    found = []
    while left:
        row = _row_in(left, balance)
        first, last = row_ends(row)
        times = min([left[step] for step in row])
        if first != last:
            times = min(times, balance[first], -balance[last])
            balance[first] = balance[first] - times
            balance[last] = balance[last] + times
        found.append((times, row))
        for step in row:
            left[step] = left[step] - times
            if left[step] == 0:
                del left[step]
    return found


def _is_times_and_round(thing):
    """Return whether thing is a tuple (times, round)."""
    if not isinstance(thing, tuple) or len(thing) != 2:
        return False
    times, row = thing
    return is_number(1, times) and is_round(row)


def step_numbers(heap, turning):
    """Return the dict from the steps in which carts of a heap stand to the numbers of these carts."""
    found = {}
    for cart in heap:
        turned = turning.get(cart, 0)
        if turned < heap[cart]:
            found[(cart, False)] = heap[cart] - turned
        if turned > 0:
            found[(cart, True)] = turned
    return found


def _row_in(left, balance):
    """Return a round of steps that are left, or a row of them from a balance above 0 to one below 0."""
    onward = {begin_of(step): step for step in left}
    begins = [kind for kind in onward if balance[kind] > 0] or list(onward)
    kind = begins[0]
    row = []
    places = {}
    # More steps lead to no kind than from it, unless its balance is below 0; so each step is followed by one.
    while kind not in places:
        if balance[kind] < 0:
            return row
        places[kind] = len(row)
        row.append(onward[kind])
        kind = end_of(onward[kind])
    return row[places[kind]:]
