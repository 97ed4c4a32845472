"""A yard: free carts and trains, which deeds change."""

from hookcarts.carts import begin_of, cart_of
from hookcarts.errors import CartError, NoPlace, Nothing, Refused, Wrong
from hookcarts.fewest import fewest
from hookcarts.heaps import Heap
from hookcarts.kinds import is_cart, is_number
from hookcarts.longtrains import carts_of, is_train, joined, length, stretch, train_about, train_ends
from hookcarts.trains import trains


class Yard:
    """A Heap of free carts, and a list of trains."""

    # A state is the Heap of the free carts and the list of the trains. Neither of them is ever changed, a deed puts
    # others in their place; so deeds are kept with the states ahead of them, or behind them if they were taken back.

    def __init__(self, heap):
        self._free = heap
        self._laid = []
        self._done = []
        self._undone = []

    def do(self, deed):
        """Do a deed; raise Wrong(0) if it is none, or its errors."""
        if not is_deed(deed):
            raise Wrong(0)
        kept = _copy_of(deed)
        free, laid = _state_behind(self._free, self._laid, kept)
        self._done.append((kept, self._free, self._laid))
        self._undone = []
        self._free, self._laid = free, laid

    def do_all(self, deeds):
        """Do all deeds of a list, or none of them; raise Refused with the first that is none or can't be done."""
        tried = self.copied()
        for deed in deeds:
            try:
                tried.do(deed)
            except CartError:
                raise Refused(deed) from None
        self._take(tried)

    def back(self):
        """Take the last deed back; raise Nothing() if there is none."""
        if not self._done:
            raise Nothing()
        deed, free, laid = self._done.pop()
        self._undone.append((deed, self._free, self._laid))
        self._free, self._laid = free, laid

    def again(self):
        """Do the last deed again that was taken back; raise Nothing() if there is none."""
        if not self._undone:
            raise Nothing()
        deed, free, laid = self._undone.pop()
        self._done.append((deed, self._free, self._laid))
        self._free, self._laid = free, laid

    def log(self):
        """Return the list of the deeds that were done and not taken back."""
        return [_copy_of(deed) for deed, _, _ in self._done]

    def copied(self):
        """Return a Yard in the same state, with the same deeds to take back and to do again."""
        twin = Yard(self._free)
        twin._take(self)
        return twin

    def free(self):
        """Return the Heap of the free carts."""
        return Heap(self._free.carts())

    def trains(self):
        """Return the list of the trains."""
        return [_copy_of_train(train) for train in self._laid]

    def pieces(self):
        """Return the number of the free carts and the trains together."""
        return self._free.count() + len(self._laid)

    def standing(self):
        """Return the Heap of the free carts with one cart in the place of each train."""
        numbers = self._free.carts()
        for train in self._laid:
            cart = _cart_in_place(train)
            numbers[cart] = numbers.get(cart, 0) + 1
        return Heap(numbers)

    def fewest(self):
        """Return the number of trains into which all can still be coupled, if no train is cut."""
        return fewest(self.standing())

    def advice(self):
        """Return a list of deeds that couple two of the pieces, so that the fewest stays, or the empty list."""
        for _, train in trains(self.standing()):
            if length(train) > 1:
                # In a split into the fewest trains these two stand behind each other.
                return self._coupling(stretch(train, 0, 2))
        return []

    def _take(self, other):
        """Take over the state of another yard, and its deeds."""
        self._free, self._laid = other._free, other._laid
        self._done, self._undone = list(other._done), list(other._undone)

    def _coupling(self, steps):
        """Return the list of deeds that couple two pieces that stand in these steps of standing()."""
        free = self._free
        deeds, places = [], []
        for step in steps:
            if step[0] in free:
                free = free.out(step[0])
                places.append(len(self._laid) + len([deed for deed in deeds if deed[0] == "lay"]))
                deeds.append(("lay", [(1, [step])]))
            else:
                place = self._place_of(step[0], places)
                places.append(place)
                if train_ends(self._laid[place])[0] != begin_of(step):
                    deeds.append(("turn", place))
        return [*deeds, ("join", *places)]

    def _place_of(self, cart, but):
        """Return the index of the first train in whose place a cart stands, without those of a list."""
        carts = [_cart_in_place(train) for train in self._laid]
        return [place for place, one in enumerate(carts) if one == cart and place not in but][0]


def is_deed(thing):
    """Return whether thing is a deed."""
    if not isinstance(thing, tuple) or len(thing) == 0 or not isinstance(thing[0], str):
        return False
    word, told = thing[0], list(thing[1:])
    if word in ("put", "out"):
        return len(told) == 2 and is_cart(told[0]) and is_number(1, told[1])
    if word == "lay":
        return len(told) == 1 and is_train(told[0])
    if word in ("turn", "loose"):
        return len(told) == 1 and is_number(0, told[0])
    if word in ("join", "cut"):
        return len(told) == 2 and is_number(0, told[0]) and is_number(0 if word == "join" else 1, told[1])
    return False


def _copy_of(deed):
    """Return a deed, with a train of its own."""
    return ("lay", _copy_of_train(deed[1])) if deed[0] == "lay" else deed


def _copy_of_train(train):
    """Return the train with rows of its own."""
    return [(many, list(row)) for many, row in train]


def _cart_in_place(train):
    """Return the cart that stands for a train in standing()."""
    first, last = train_ends(train)
    return cart_of(first, last, turns=all([cart[2] for cart in carts_of(train)]))


# Each of the next seven functions takes the free carts, the list of the trains and what a deed tells, and returns the
# free carts and the list of the trains behind the deed; they raise the errors of the deed.


def _put(free, laid, cart, many):
    """Put carts to the free ones."""
    return (free.put(cart, many), laid)


def _out(free, laid, cart, many):
    """Take carts out of the free ones."""
    return (free.out(cart, many), laid)


def _laid_behind(free, laid, train):
    """Put a train of free carts behind the others."""
    return (free - Heap(carts_of(train)), [*laid, train])


def _joined_behind(free, laid, index, other):
    """Couple one train behind another."""
    _check_place(laid, index)
    if other >= len(laid) or other == index:
        raise NoPlace(other)
    train = joined(laid[index], laid[other])
    return (free, [train if place == index else one for place, one in enumerate(laid) if place != other])


def _cut_behind(free, laid, index, at):
    """Cut a train behind so many steps."""
    _check_place(laid, index)
    if at >= length(laid[index]):
        raise NoPlace(at)
    ahead, behind = _parted(laid[index], at)
    return (free, [*laid[:index], ahead, behind, *laid[index + 1:]])


def _turned(free, laid, index):
    """Turn a train about."""
    _check_place(laid, index)
    return (free, [*laid[:index], train_about(laid[index]), *laid[index + 1:]])


def _loosened(free, laid, index):
    """Make the carts of a train free."""
    _check_place(laid, index)
    return (free + Heap(carts_of(laid[index])), [*laid[:index], *laid[index + 1:]])


_STATES = {
    "put": _put, "out": _out, "lay": _laid_behind, "join": _joined_behind, "cut": _cut_behind, "turn": _turned,
    "loose": _loosened,
}


def _state_behind(free, laid, deed):
    """Return the free carts and the list of the trains behind a deed; raise its errors."""
    change = _STATES[deed[0]]
    told = deed[1:]
    return change(free, laid, *told)


def _check_place(laid, index):
    """Raise NoPlace(index) if there is no train with this index."""
    if index >= len(laid):
        raise NoPlace(index)


def _parted(train, at):
    """Return the parts of the first steps, so many of them, and those of the others, of which there is at least one."""
    index, left = 0, at
    while left >= train[index][0] * len(train[index][1]):
        left = left - train[index][0] * len(train[index][1])
        index = index + 1
    many, row = train[index]
    whole, steps = divmod(left, len(row))
    ahead = [*train[:index], (whole, row), (1, row[:steps])]
    split = [(1, row[steps:]), (many - whole - 1, row)] if steps > 0 else [(many - whole, row)]
    return (_with_steps(ahead), _with_steps([*split, *train[index + 1:]]))


def _with_steps(parts):
    """Return the list of the parts that have a step."""
    return [(many, row) for many, row in parts if many > 0 and len(row) > 0]
