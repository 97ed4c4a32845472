"""Heaps: numbers of carts."""

from hookcarts.carts import cart_of
from hookcarts.errors import Missing, NoCart, NoKind, Wrong
from hookcarts.kinds import is_cart, is_kind, is_number


class Heap:
    """A heap of carts, told by a dict from carts to integers from 1 on; it never changes."""

    def __init__(self, carts):
        if not _are_numbers(carts):
            raise Wrong(0)
        self._numbers = {cart: carts[cart] for cart in sorted(carts)}

    def __len__(self):
        return len(self._numbers)

    def __iter__(self):
        return iter(self._numbers)

    def __contains__(self, x):
        return is_cart(x) and x in self._numbers

    def __getitem__(self, at):
        if not is_cart(at):
            raise NoCart(at)
        return _number(self._numbers, at)

    def __eq__(self, other):
        return isinstance(other, Heap) and self._numbers == other._numbers

    def __add__(self, other):
        return Heap(_sums(self._numbers, other._numbers))

    def __sub__(self, other):
        return Heap(_differences(self._numbers, other._numbers))

    def __mul__(self, other):
        return Heap(_products(self._numbers, other))

    def __rmul__(self, other):
        return Heap(_products(self._numbers, other))

    def carts(self):
        """Return the dict of the numbers of the carts, ascending."""
        return {cart: self._numbers[cart] for cart in self._numbers}

    def count(self):
        """Return the number of all carts."""
        return sum(list(self._numbers.values()))

    def kinds(self):
        """Return the ascending list of the kinds."""
        return sorted(_hook_numbers(self._numbers))

    def hooks(self, kind):
        """Return the number of hooks of a kind; raise NoKind(kind) for what is no kind."""
        if not is_kind(kind):
            raise NoKind(kind)
        return _number(_hook_numbers(self._numbers), kind)

    def odd(self):
        """Return the ascending list of the kinds with an odd number of hooks."""
        hooks = _hook_numbers(self._numbers)
        return sorted([kind for kind in hooks if hooks[kind] % 2 == 1])

    def lots(self):
        """Return the list of the lots, Heaps, in the order of their least kinds."""
        firsts = first_kinds(self._numbers)
        found = {first: {} for first in sorted(set(list(firsts.values())))}
        for cart in self._numbers:
            found[firsts[cart[0]]][cart] = self._numbers[cart]
        return [Heap(found[first]) for first in found]

    def put(self, cart, many=1):
        """Return the Heap with so many more of a cart."""
        _check_cart_and_number(cart, many)
        return self + Heap({cart: many})

    def out(self, cart, many=1):
        """Return the Heap with so many fewer of a cart; raise Missing(cart) if there are fewer."""
        _check_cart_and_number(cart, many)
        return self - Heap({cart: many})

    def is_within(self, other):
        """Return whether other has at least as many of each cart."""
        return all([self._numbers[cart] <= other[cart] for cart in self._numbers])

    def renamed(self, names):
        """Return the Heap with the kinds that names, a dict, tells in the place of its own."""
        return Heap({_renamed_cart(cart, names): self._numbers[cart] for cart in self._numbers})

    def about(self):
        """Return the Heap in which front and back of each fixed cart are exchanged."""
        return Heap({_cart_about(cart): self._numbers[cart] for cart in self._numbers})


def first_kinds(carts):
    """Return the dict from each kind of the carts to the least kind with which it hangs together."""
    beside = _kinds_beside(carts)
    firsts = {}
    for first in sorted(beside):
        if first not in firsts:
            firsts[first] = first
            waiting = [first]
            while waiting:
                reached = waiting.pop()
                for kind in beside[reached]:
                    if kind not in firsts:
                        firsts[kind] = first
                        waiting.append(kind)
    return firsts


def _kinds_beside(carts):
    """Return the dict from each kind of the carts to the list of the other kinds of its carts."""
    beside = {}
    for front, back, _ in carts:
        beside.setdefault(front, []).append(back)
        beside.setdefault(back, []).append(front)
    return beside


# Operators may call the functions from here on, so these change nothing but dicts that they created themselves.


def _are_numbers(thing):
    """Return whether thing is a dict from carts to integers from 1 on."""
    if not isinstance(thing, dict):
        return False
    return all([is_cart(cart) and is_number(1, thing[cart]) for cart in thing])


def _number(numbers, key):
    """Return what numbers has for a key, 0 if it has nothing."""
    return numbers[key] if key in numbers else 0


def _hook_numbers(numbers):
    """Return the dict from the kinds of carts, of which there are these numbers, to their numbers of hooks."""
    found = {}
    for cart in numbers:
        for kind in cart[:2]:
            found[kind] = _number(found, kind) + numbers[cart]
    return found


def _sums(one, other):
    """Return the numbers of both together."""
    return {cart: _number(one, cart) + _number(other, cart) for cart in [*one, *other]}


def _differences(one, other):
    """Return the numbers of one without those of other; raise Missing(cart) where other has more."""
    for cart in other:
        if other[cart] > _number(one, cart):
            raise Missing(cart)
    return {cart: one[cart] - _number(other, cart) for cart in one if one[cart] > _number(other, cart)}


def _products(numbers, times):
    """Return the numbers, each so many times."""
    return {cart: times * numbers[cart] for cart in numbers if times > 0}


def _check_cart_and_number(cart, many):
    """Raise Wrong with the place of the first argument that is not as described."""
    if not is_cart(cart):
        raise Wrong(0)
    if not is_number(1, many):
        raise Wrong(1)


def _renamed_cart(cart, names):
    """Return the cart with the kinds that names tells."""
    front, back, turns = cart
    return cart_of(names[front], names[back], turns=turns)


def _cart_about(cart):
    """Return the cart with front and back exchanged, if it is fixed."""
    front, back, turns = cart
    return cart if turns else (back, front, turns)
