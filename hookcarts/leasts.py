"""The least fewest of all heaps that fit what is known."""

from hookcarts.carts import cart_of
from hookcarts.fewest import fewest
from hookcarts.heaps import Heap
from hookcarts.turnings import best_turning, leading_numbers


def least_fewest(known):
    """Return the least fewest of all heaps that fit."""
    return fewest(least_heap(known))


def least_heap(known):
    """Return a Heap that fits and has the least fewest."""
    best = min(all_limits(known), key=lambda limits: fewest(swinging(limits)))
    return _settled(best)


def all_limits(known):
    """Return a list of dicts from the carts to limits (low, high), of which one at least allows the best of the heaps.

    Limits allow the numbers low, low + 2, and so on up to high; (0, 0) tells that there is none of the cart.
    """
    found = [{}]
    for cart in known:
        found = [{**chosen, cart: limits} for chosen in found for limits in _limits_to_try(cart, known[cart])]
    return found


def swinging(limits):
    """Return the Heap that stands for all heaps within limits: it has their lots, the least fewest, and all their ends.

    With low + s fixed carts, and s more that turn and lead along with these or against them, low, low + 2, .., or
    low + 2 * s more carts lead from the front than to it: just as many as with these numbers of fixed ones.
    """
    numbers = {}
    for cart in limits:
        low, high = limits[cart]
        swings = (high - low) // 2
        if high > 0:
            numbers[cart] = numbers.get(cart, 0) + low + swings
        if swings > 0:
            turning = cart_of(cart[0], cart[1], turns=True)
            numbers[turning] = numbers.get(turning, 0) + swings
    return Heap(numbers)


def _limits_to_try(cart, told):
    """Return the list of the limits to try for a cart with the range told."""
    front, back, turns = cart
    least, most = told
    first = max(1, least)
    none = [(0, 0)] if least == 0 else []
    if front == back:
        # It only counts whether there is such a cart.
        return [*none, (first, first)]
    if turns:
        # Two carts more can stand against each other, so that they do no harm.
        return [*none, *[(number, number) for number in (most - 1, most) if number >= first]]
    return [*none, *[(low, most - (most - low) % 2) for low in (first, first + 1) if low <= most]]


def _settled(limits):
    """Return a Heap within limits that goes into as few trains as the swinging one."""
    heap = swinging(limits)
    leading = leading_numbers(heap, best_turning(heap))
    numbers = {}
    for cart in limits:
        front, back, _ = cart
        low, high = limits[cart]
        # If too few lead along with this cart, enough lead against it for the one that has these kinds the other way.
        along = min((high - low) // 2, leading.get((front, back), 0))
        numbers[cart] = low + 2 * along
    return Heap({cart: numbers[cart] for cart in numbers if numbers[cart] > 0})
