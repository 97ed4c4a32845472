"""The whole rows of a heap, in their order."""

from hookcarts.carts import begin_of, end_of, steps_of
from hookcarts.errors import NoPlace
from hookcarts.heaps import Heap
from hookcarts.kinds import is_number
from hookcarts.rows import carts_in, is_row


class Beginnings:
    """The beginnings of the whole rows of a heap, and what can be coupled behind them.

    A beginning is told by a tuple (left, at): how many of each cart are left, and the kind to which it leads; at is
    None for the empty one. What was counted once is kept.
    """

    def __init__(self, heap):
        self.start = (tuple([heap[cart] for cart in heap]), None)
        self._carts = list(heap)
        self._numbers = {}

    def how_many(self, beginning):
        """Return the number of the whole rows with a beginning."""
        if sum(beginning[0]) == 0:
            # The empty row is none.
            return 0 if beginning == self.start else 1
        if beginning not in self._numbers:
            self._numbers[beginning] = sum([self.how_many(longer) for _, longer in self.choices(beginning)])
        return self._numbers[beginning]

    def choices(self, beginning):
        """Return the ascending list of the tuples (step, longer) of the steps that couple, and the beginnings then."""
        left, at = beginning
        found = []
        for place, cart in enumerate(self._carts):
            if left[place] > 0:
                rest = (*left[:place], left[place] - 1, *left[place + 1:])
                steps = [step for step in steps_of(cart) if at is None or begin_of(step) == at]
                found.extend([(step, (rest, end_of(step))) for step in steps])
        return found

    def along(self, row):
        """Return the list of all beginnings of a whole row, from the empty one on."""
        found = [self.start]
        for step in row:
            found.extend([longer for other, longer in self.choices(found[-1]) if other == step])
        return found

    def behind(self, beginning, index):
        """Return the list of the steps behind a beginning in the row with an index among those with this beginning."""
        found = []
        at, ahead = beginning, index
        while sum(at[0]) > 0:
            step, at, ahead = self._chosen(at, ahead)
            found.append(step)
        return found

    def _chosen(self, beginning, index):
        """Return the next step of the row with an index, the beginning with it, and the index among those with it."""
        choices = self.choices(beginning)
        place, ahead = 0, index
        while ahead >= self.how_many(choices[place][1]):
            ahead = ahead - self.how_many(choices[place][1])
            place = place + 1
        step, longer = choices[place]
        return (step, longer, ahead)


def nth(heap, index):
    """Return the whole row with an index; raise NoPlace(index) if there is none."""
    beginnings = Beginnings(heap)
    if not is_number(0, index) or index >= beginnings.how_many(beginnings.start):
        raise NoPlace(index)
    return beginnings.behind(beginnings.start, index)


def place_of(heap, thing):
    """Return the index of thing among the whole rows, or None if it is none."""
    if not is_row(thing) or Heap(carts_in(thing)) != heap:
        return None
    beginnings = Beginnings(heap)
    place = 0
    for step, beginning in zip(thing, beginnings.along(thing)):
        lesser = [longer for other, longer in beginnings.choices(beginning) if other < step]
        place = place + sum([beginnings.how_many(longer) for longer in lesser])
    return place


def next_row(heap, row):
    """Return the whole row behind a whole row, or None if it is the last."""
    return _next_of(Beginnings(heap), row)


def rows_of(heap):
    """Yield all whole rows, ascending."""
    beginnings = Beginnings(heap)
    row = beginnings.behind(beginnings.start, 0) if beginnings.how_many(beginnings.start) > 0 else None
    while row is not None:
        yield list(row)
        row = _next_of(beginnings, row)


def _next_of(beginnings, row):
    """Return the whole row behind a whole row, or None."""
    passed = beginnings.along(row)
    for index in range(len(row) - 1, -1, -1):
        for step, longer in beginnings.choices(passed[index]):
            if step > row[index] and beginnings.how_many(longer) > 0:
                return [*row[:index], step, *beginnings.behind(longer, 0)]
    return None
