"""In how many ways the carts of a heap can be coupled into one row."""

from math import factorial

from hookcarts.carts import begin_of, end_of
from hookcarts.heaps import Heap
from hookcarts.rounds import step_numbers
from hookcarts.rows import carts_in, row_ends
from hookcarts.turnings import balances, turnable


def ways(heap):
    """Return the number of whole rows of a heap."""
    return sum(_numbers_led(heap).values())


def ways_led(heap, first, last):
    """Return the number of the whole rows with these ends."""
    return _numbers_led(heap).get((first, last), 0)


def ways_by(heap, turning):
    """Return the number of the whole rows in which the carts stand turned as often as a turning tells."""
    return sum(_numbers_by(heap, turning).values())


def ways_beginning(heap, row):
    """Return the number of the whole rows that begin with the steps of a row."""
    started = Heap(carts_in(row))
    if not started.is_within(heap):
        return 0
    rest = heap - started
    if len(rest) == 0:
        return 1
    return begins(rest).get(row_ends(row)[1], 0)


def begins(heap):
    """Return the dict from the kinds from which whole rows lead to their numbers."""
    numbers = _numbers_led(heap)
    found = {}
    for first, last in sorted(numbers):
        found[first] = found.get(first, 0) + numbers[(first, last)]
    return found


def turnings_told(heap):
    """Return the list of the tuples (turning, number) of all turnings by which there are whole rows."""
    told = [(turning, ways_by(heap, turning)) for turning in _all_turnings(heap)]
    return [(turning, number) for turning, number in told if number > 0]


def _all_turnings(heap):
    """Return the list of all turnings of a heap, in ascending order of their numbers."""
    found = [{}]
    for cart in turnable(heap):
        found = [{**turning, cart: number} for turning in found for number in range(heap[cart] + 1)]
    return found


def _numbers_led(heap):
    """Return the dict from the ends of whole rows to the numbers of these rows."""
    found = {}
    for turning in _all_turnings(heap):
        numbers = _numbers_by(heap, turning)
        for pair in numbers:
            found[pair] = found.get(pair, 0) + numbers[pair]
    return found


def _numbers_by(heap, turning):
    """Return the dict from the ends of the whole rows by a turning to the numbers of these rows."""
    numbers = {pair: _number_tied(heap, turning, pair) for pair in _pairs_to_tie(balances(heap, turning))}
    return {pair: numbers[pair] for pair in numbers if numbers[pair] > 0}


def _pairs_to_tie(balance):
    """Return the list of the tuples (first, last) of kinds for which a tie from last to first makes all balances 0."""
    uneven = [kind for kind in balance if balance[kind] != 0]
    if not uneven:
        return [(kind, kind) for kind in balance]
    first = max(uneven, key=lambda kind: balance[kind])
    last = min(uneven, key=lambda kind: balance[kind])
    return [(first, last)] if len(uneven) == 2 and balance[first] == 1 else []


def _number_tied(heap, turning, pair):
    """Return the number of the whole rows by a turning with a pair of ends that can be tied."""
    first, last = pair
    steps = step_numbers(heap, turning)
    leading = {(last, first): 1}
    for step in steps:
        led = (begin_of(step), end_of(step))
        leading[led] = leading.get(led, 0) + steps[step]
    kinds = heap.kinds()
    number = _trees(leading, kinds, first)
    if number == 0:
        return 0
    for kind in kinds:
        number = number * factorial(sum([leading.get((kind, other), 0) for other in kinds]) - 1)
    for step in steps:
        # Steps of carts that are alike can't be told apart.
        number = number // factorial(steps[step])
    return number


def _trees(leading, kinds, root):
    """Return in how many ways one of the steps can be chosen from each kind but the root, so that all lead to it."""
    others = [kind for kind in kinds if kind != root]
    rows = []
    for kind in others:
        away = sum([leading.get((kind, last), 0) for last in kinds if last != kind])
        rows.append([away if last == kind else -leading.get((kind, last), 0) for last in others])
    return _determinant(rows)


def _determinant(rows):
    """Return the determinant of a list of rows of as many integers."""
    if not rows:
        return 1
    total = 0
    sign = 1
    for index, number in enumerate(rows[0]):
        if number != 0:
            total = total + sign * number * _determinant([row[:index] + row[index + 1:] for row in rows[1:]])
        sign = -sign
    return total
