"""What is sure, or can be, of all heaps that fit what is known."""

from hookcarts.ends import ends
from hookcarts.errors import NoNumber
from hookcarts.fewest import fewest
from hookcarts.heaps import Heap
from hookcarts.kinds import is_integer
from hookcarts.leasts import all_limits, least_fewest, least_heap, swinging
from hookcarts.mosts import most_fewest, most_heap


def heap_with(known, number):
    """Return a Heap that fits and has this fewest; raise NoNumber(number) if there is none."""
    least, most = least_heap(known), most_heap(known)
    if not is_integer(number) or not fewest(least) <= number <= fewest(most):
        raise NoNumber(number)
    numbers = {cart: least[cart] for cart in known}
    if fewest(least) == number:
        return least
    # The numbers go over to those of most cart by cart, until the fewest comes to the number.
    for cart in known:
        further = {**numbers, cart: most[cart]}
        if _fewest_of(further) >= number:
            return _heap_of({**numbers, cart: _first_number(numbers, cart, most[cart], number)})
        numbers = further
    return most


def can_be_one(known):
    """Return whether some heap that fits goes into one train."""
    return least_fewest(known) == 1


def surely_one(known):
    """Return whether each heap that fits goes into one train."""
    return most_fewest(known) == 1


def surely_odd(known):
    """Return the ascending list of the kinds that are odd in all heaps that fit."""
    odd = known.leasts().odd()
    return [kind for kind in _settled_kinds(known) if kind in odd]


def never_odd(known):
    """Return the ascending list of the kinds that are odd in no heap that fits."""
    odd = known.leasts().odd()
    return [kind for kind in _settled_kinds(known) if kind not in odd]


def possible_ends(known):
    """Return the ascending list of the ends of all trains of all carts of some heap that fits."""
    return sorted({pair for limits in all_limits(known) for pair in ends(swinging(limits))})


def _first_number(numbers, cart, goal, number):
    """Return how many of a cart there are as the fewest comes to a number on the way from numbers to the goal."""
    below, reached = numbers[cart], goal
    # Each cart more changes the fewest by one at most, so that it is just the number where it is first reached.
    while abs(reached - below) > 1:
        middle = (below + reached) // 2
        if _fewest_of({**numbers, cart: middle}) < number:
            below = middle
        else:
            reached = middle
    return reached


def _fewest_of(numbers):
    """Return the fewest of the heap with these numbers, some of which may be 0."""
    return fewest(_heap_of(numbers))


def _heap_of(numbers):
    """Return the Heap with these numbers, some of which may be 0."""
    return Heap({cart: numbers[cart] for cart in numbers if numbers[cart] > 0})


def _settled_kinds(known):
    """Return the ascending list of the kinds that are odd in all heaps that fit, or in none."""
    wide = [cart for cart in known if known[cart][0] < known[cart][1] and cart[0] != cart[1]]
    return [kind for kind in known.kinds() if not any([kind in cart[:2] for cart in wide])]
