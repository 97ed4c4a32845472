"""The greatest fewest of all heaps that fit what is known."""

from hookcarts.fewest import fewest
from hookcarts.heaps import Heap


def most_fewest(known):
    """Return the greatest fewest of all heaps that fit."""
    return fewest(most_heap(known))


def most_heap(known):
    """Return a Heap that fits and has the greatest fewest."""
    found = [{}]
    for cart in known:
        found = [{**numbers, cart: number} for numbers in found for number in _numbers_to_try(cart, known[cart])]
    heaps = [Heap({cart: numbers[cart] for cart in numbers if numbers[cart] > 0}) for numbers in found]
    return max(heaps, key=fewest)


def _numbers_to_try(cart, limits):
    """Return the ascending list of some numbers in a range, such that no other one makes a fewest greater.

    Once it is decided which carts there are, so are the lots. If the two kinds of a cart differ in worth, one cart more
    changes the strain by as much as the odd kinds can make up for, so that the ends of the range are enough (the lower
    one for carts that turn); if they don't, it only counts whether the number is odd.
    """
    front, back, turns = cart
    least, most = limits
    first = max(1, least)
    numbers = [least, first]
    if front != back:
        numbers.append(first + 1)
        if not turns:
            numbers.append(most)
    return sorted({number for number in numbers if least <= number <= most})
