"""Splits: lists of trains, tuples (times, train)."""

from hookcarts.heaps import Heap
from hookcarts.kinds import has_two_steps, is_number
from hookcarts.longtrains import carts_of, is_train, train_ends


def is_split(heap, thing):
    """Return whether thing is a split of a heap."""
    if not isinstance(thing, list) or not all([_is_times_and_train(pair) for pair in thing]):
        return False
    return heap_in(thing) == heap


def _is_times_and_train(thing):
    """Return whether thing is a tuple (times, train)."""
    if not isinstance(thing, tuple) or len(thing) != 2:
        return False
    times, train = thing
    return is_number(1, times) and is_train(train)


def heap_in(split):
    """Return the Heap of all carts in a list of trains."""
    found = {}
    for times, train in split:
        numbers = carts_of(train)
        for cart in numbers:
            found[cart] = found.get(cart, 0) + times * numbers[cart]
    return Heap(found)


def how_many(split):
    """Return the number of the trains."""
    return sum([times for times, _ in split])


def split_ends(split):
    """Return the ascending list of the tuples (first, last, number) of the ends that so many of the trains have."""
    found = {}
    for times, train in split:
        pair = train_ends(train)
        found[pair] = found.get(pair, 0) + times
    return [(first, last, found[(first, last)]) for first, last in sorted(found)]


def turned_in(split):
    """Return the dict from the carts that turn and have two different kinds to how many of them stand turned."""
    found = {}
    for times, train in split:
        for many, row in train:
            for cart, turned in row:
                if has_two_steps(cart):
                    found[cart] = found.get(cart, 0) + (times * many if turned else 0)
    return {cart: found[cart] for cart in sorted(found)}
