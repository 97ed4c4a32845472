"""The errors that the package raises; each keeps what it was made of as fields."""


class CartError(ValueError):
    """The base of all errors of the package; it is raised nowhere itself."""

    def __init__(self, *told):
        self.told = told


class Wrong(CartError):
    """The argument with this place, counted from 0, is not as described."""

    def __init__(self, place):
        self.place = place


class NoKind(CartError):
    """A value is no kind, or none of the heap."""

    def __init__(self, kind):
        self.kind = kind


class NoCart(CartError):
    """A value is no cart."""

    def __init__(self, cart):
        self.cart = cart


class Missing(CartError):
    """There are too few of a cart."""

    def __init__(self, cart):
        self.cart = cart


class Both(CartError):
    """A kind is among the highs and among the lows."""

    def __init__(self, kind):
        self.kind = kind


class Fixed(CartError):
    """The cart of the step with this index can't be turned about."""

    def __init__(self, index):
        self.index = index


class NoPlace(CartError):
    """A value is no index of what is asked for."""

    def __init__(self, index):
        self.index = index


class Loose(CartError):
    """What should couple does not."""


class NoNumber(CartError):
    """No heap that fits goes into this number of trains."""

    def __init__(self, number):
        self.number = number


class NoRange(CartError):
    """No number of this cart fits."""

    def __init__(self, cart):
        self.cart = cart


class NoAdapters(CartError):
    """No purchase of a shop is good."""


class Refused(CartError):
    """A deed is none, or can't be done."""

    def __init__(self, deed):
        self.deed = deed


class Nothing(CartError):
    """There is nothing to take back or to do again."""


class NoText(CartError):
    """A text is not written as it should be, from this index on."""

    def __init__(self, index):
        self.index = index


class NoCommand(CartError):
    """A line is no command of the desk."""
