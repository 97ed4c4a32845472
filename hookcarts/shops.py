"""Shops: adapters, carts with prices, that can be joined to a heap."""

from hookcarts.carts import cart_of
from hookcarts.fewest import fewest
from hookcarts.heaps import Heap
from hookcarts.kinds import is_cart, is_number
from hookcarts.longtrains import train_ends
from hookcarts.trains import trains


def is_shop(thing):
    """Return whether thing is a shop, a list of tuples (cart, price)."""
    if not isinstance(thing, list) or len(thing) > 3 or not all([_is_cart_and_price(pair) for pair in thing]):
        return False
    return len({cart for cart, _ in thing}) == len(thing)


def is_purchase(shop, thing):
    """Return whether thing is a purchase of a shop."""
    if not isinstance(thing, dict):
        return False
    adapters = [cart for cart, _ in shop]
    # Python takes ("a", "b", 1) for ("a", "b", True), so the form of the keys is looked at first.
    return all([is_cart(cart) and cart in adapters and is_number(1, thing[cart]) for cart in thing])


def price_of(shop, purchase):
    """Return the price of a purchase."""
    return sum([price * purchase.get(cart, 0) for cart, price in shop])


def way_of(shop, purchase):
    """Return the way that a purchase goes."""
    numbers = [purchase.get(cart, 0) for cart, _ in shop]
    return tuple([2 - number % 2 if number > 0 else 0 for number in numbers])


def least_of(shop, way):
    """Return the purchase with just the numbers of a way."""
    numbers = {cart: number for (cart, _), number in zip(shop, way) if number > 0}
    return {cart: numbers[cart] for cart in sorted(numbers)}


def open_ways(heap, shop):
    """Return the list of the tuples (way, ends) that are open, by ascending ways."""
    return [(way, ends) for way in _all_ways(shop) for ends in _open_ends(heap + Heap(least_of(shop, way)))]


def shown_price(heap, shop, way, ends, worths):
    """Return the price that worths show for an open (way, ends), or None if they can't show one."""
    costs = [(number, price + _pull(cart, worths)) for (cart, price), number in zip(shop, way) if number > 0]
    if any([cost < 0 for _, cost in costs]):
        return None
    total = sum([number * cost for number, cost in costs]) + sum([heap[cart] * _pull(cart, worths) for cart in heap])
    if ends == ():
        return total
    first, last = ends
    return total + worths.get(last, 0) - worths.get(first, 0)


def links_missing(heap):
    """Return the least number of carts that must be joined to a heap so that all go into one train."""
    return max(0, fewest(heap) - 1)


def linking(heap):
    """Return a Heap of as few fixed carts with which all carts of a heap go into one train."""
    found = {}
    at = None
    for times, train in trains(heap):
        first, last = train_ends(train)
        links = [(cart_of(last, first), times - 1)]
        if at is not None:
            links.append((cart_of(at, first), 1))
        for cart, number in links:
            found[cart] = found.get(cart, 0) + number
        at = last
    return Heap({cart: found[cart] for cart in found if found[cart] > 0})


def _is_cart_and_price(thing):
    """Return whether thing is a tuple (cart, price)."""
    if not isinstance(thing, tuple) or len(thing) != 2:
        return False
    cart, price = thing
    return is_cart(cart) and is_number(1, price) and price <= 1000


def _all_ways(shop):
    """Return the ascending list of all ways of a shop."""
    found = [()]
    for _ in shop:
        found = [(*way, number) for way in found for number in range(3)]
    return found


def _open_ends(heap):
    """Return the list of the ends that are open for a heap with a purchase joined to it."""
    odd = heap.odd()
    if len(heap.lots()) != 1 or len(odd) > 2:
        return []
    if not odd:
        return [()]
    one, other = odd
    return [(one, other), (other, one)]


def _pull(cart, worths):
    """Return the difference of a cart in worth; of one that turns without its sign, and below 0."""
    front, back, turns = cart
    difference = worths.get(front, 0) - worths.get(back, 0)
    return -abs(difference) if turns else difference
