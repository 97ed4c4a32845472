"""Heaps coupled into the fewest trains, or into one."""

from hookcarts.carts import begin_of, cart_of
from hookcarts.longtrains import train_ends
from hookcarts.rounds import rows_through
from hookcarts.rows import row_ends
from hookcarts.splits import how_many
from hookcarts.turnings import best_turning, spread


def trains(heap):
    """Return a split of a heap with the fewest trains."""
    return trains_by(heap, best_turning(heap))


def trains_by(heap, turning):
    """Return a split with as few trains as any has in which the carts stand turned as often as a turning tells."""
    found = []
    for lot in heap.lots():
        found.extend(_trains_of_lot(lot, turning))
    return found


def one_train(heap):
    """Return a train of all carts of a heap, or None."""
    split = trains(heap)
    return split[0][1] if how_many(split) == 1 else None


def ring(heap):
    """Return a train of all carts of a heap that is a ring, or None."""
    train = one_train(heap)
    if train is None:
        return None
    first, last = train_ends(train)
    return train if first == last else None


def led(heap, first, last):
    """Return a train of all carts of a heap with these ends, or None."""
    turning = turning_led(heap, first, last)
    if turning is None:
        return None
    train = trains_by(heap, turning)[0][1]
    if first != last:
        return train
    ahead, behind = _cut_at(train, first)
    return [*behind, *ahead]


def turning_led(heap, first, last):
    """Return a turning by which all carts of a heap go into a train with these ends, or None."""
    # One more cart that leads back makes a ring of the train.
    closed = heap.put(cart_of(last, first))
    turning = best_turning(closed)
    if len(heap) == 0 or len(closed.lots()) > 1 or spread(closed, turning) > 0:
        return None
    return turning


def _trains_of_lot(lot, turning):
    """Return a list of trains of all carts of a lot, turned as a turning tells, as few of them as can be."""
    rows = rows_through(lot, turning)
    found = [(times, [(1, row)]) for times, row in rows if not _comes_back(row)]
    waiting = [(many, row) for many, row in rows if _comes_back(row)]
    if not found:
        found = [(1, [waiting.pop()])]
    while waiting:
        many, row = waiting.pop(0)
        longer = _coupled_in(found, many, row)
        if longer is None:
            # As all carts hang together, it couples to one of the rounds that wait.
            waiting.append((many, row))
        else:
            found = longer
    return found


def _comes_back(row):
    """Return whether the two ends of a row are one kind."""
    first, last = row_ends(row)
    return first == last


def _coupled_in(split, many, row):
    """Return the list of trains with a round so many times in one of them, or None if it couples to none."""
    for index, (times, train) in enumerate(split):
        longer = _with_round(train, many, row)
        if longer is not None:
            others = [(times - 1, [(number, list(steps)) for number, steps in train])] if times > 1 else []
            return [*split[:index], (1, longer), *others, *split[index + 1:]]
    return None


def _with_round(train, many, row):
    """Return the train with a round so many times in it, or None if it couples nowhere."""
    for place, step in enumerate(row):
        cut = _cut_at(train, begin_of(step))
        if cut is not None:
            ahead, behind = cut
            return [*ahead, (many, row[place:] + row[:place]), *behind]
    return None


def _cut_at(train, kind):
    """Return the lists of the parts of a train ahead of a kind and behind it, or None if it comes to no such kind."""
    for index, (many, row) in enumerate(train):
        begins = [begin_of(step) for step in row]
        if kind in begins:
            place = begins.index(kind)
            if place == 0:
                return (train[:index], train[index:])
            behind = [(1, row[place:]), (many - 1, row), *train[index + 1:]]
            return ([*train[:index], (1, row[:place])], [part for part in behind if part[0] > 0])
    return (list(train), []) if kind == train_ends(train)[1] else None
