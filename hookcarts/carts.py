"""Carts and their steps."""

from hookcarts.errors import Fixed
from hookcarts.kinds import has_two_steps


def cart_of(one, other, *, turns=False):
    """Return the cart with the front one and the back other, or the lesser of them in front if it turns."""
    if turns and one > other:
        return (other, one, turns)
    return (one, other, turns)


def steps_of(cart):
    """Return the ascending list of the steps of a cart."""
    if has_two_steps(cart):
        return [(cart, False), (cart, True)]
    return [(cart, False)]


def begin_of(step):
    """Return the kind from which a step leads."""
    cart, turned = step
    return cart[1] if turned else cart[0]


def end_of(step):
    """Return the kind to which a step leads."""
    cart, turned = step
    return cart[0] if turned else cart[1]


def about(step):
    """Return the step of the same cart that leads the other way; raise Fixed(0) for a fixed cart."""
    cart, turned = step
    if not cart[2]:
        raise Fixed(0)
    return (cart, not turned) if has_two_steps(cart) else (cart, turned)


def couple(step, other):
    """Return whether other leads from the kind to which step leads."""
    return end_of(step) == begin_of(other)
