"""What integers, kinds, carts and steps look like."""

_LETTERS = "abcdefghijklmnopqrstuvwxyz"


def is_integer(thing):
    """Return whether thing is an integer; True and False are none."""
    return isinstance(thing, int) and not isinstance(thing, bool)


def is_number(least, thing):
    """Return whether thing is an integer from least on."""
    return is_integer(thing) and thing >= least


def is_kind(thing):
    """Return whether thing is a string of one to eight letters a to z."""
    if not isinstance(thing, str) or not 1 <= len(thing) <= 8:
        return False
    return all([letter in _LETTERS for letter in thing])


def is_cart(thing):
    """Return whether thing is a tuple (front, back, turns) that is a cart."""
    if not isinstance(thing, tuple) or len(thing) != 3:
        return False
    front, back, turns = thing
    if not is_kind(front) or not is_kind(back) or not isinstance(turns, bool):
        return False
    return not turns or front <= back


def has_two_steps(cart):
    """Return whether a cart turns and has two different kinds."""
    front, back, turns = cart
    return turns and front != back


def is_step(thing):
    """Return whether thing is a tuple (cart, turned) that is a step."""
    if not isinstance(thing, tuple) or len(thing) != 2:
        return False
    cart, turned = thing
    if not is_cart(cart) or not isinstance(turned, bool):
        return False
    return not turned or has_two_steps(cart)
