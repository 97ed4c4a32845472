"""Deeds, what is none, and a plain yard that several tests use."""

import copy

from hookcarts.carts import cart_of, steps_of
from hookcarts.errors import Fixed, Loose, Missing, NoPlace
from hookcarts.longtrains import carts_of, train_about, train_ends
from tests.things import GREAT, long_row

AB, BA, TURN = cart_of("a", "b"), cart_of("b", "a"), cart_of("a", "b", turns=True)
BC, CC, DD = cart_of("b", "c", turns=True), cart_of("c", "c", turns=True), cart_of("d", "d")
RING = [(AB, False), (BA, False)]
DEEDS = [("put", AB, 1), ("out", DD, GREAT), ("lay", [(1, [(AB, False)])]), ("lay", [(GREAT, RING), (1, [(AB, False)])]),
         ("join", 0, 0), ("join", GREAT, 7), ("cut", 0, 1), ("cut", 3, GREAT), ("turn", 0), ("loose", GREAT)]
NO_DEEDS = [
    ("put", AB), ("put", AB, 0), ("put", AB, -1), ("put", AB, True), ("put", AB, None), ("put", AB, "1"), ("put", 1, AB),
    ("put", ("b", "a", True), 1), ("put", ("a", "b", 1), 1), ("put", "a>b", 1), ("put", AB, 1, 1), ["put", AB, 1],
    ("out", AB), ("out", AB, 0), ("out", AB, False), ("out", None, 1), ("out", AB, 1, None), ("out",), ("put",),
    ("lay",), ("lay", []), ("lay", [(0, RING)]), ("lay", [(1, RING)], 1), ("lay", (1, RING)), ("lay", RING), ("lay", AB),
    ("lay", [(2, [(AB, False)])]), ("lay", [(True, RING)]), ("lay", ((1, RING),)), ("lay", None), ("lay", [[1, RING]]),
    ("join",), ("join", 0), ("join", 0, -1), ("join", -1, 0), ("join", 0, True), ("join", False, 1), ("join", 0, 1, 2),
    ("join", "0", "1"), ("join", None, 0), ("cut", 0, 0), ("cut", 0), ("cut", -1, 1), ("cut", 0, -1), ("cut", 0, True),
    ("cut", False, 1), ("cut", 0, None), ("cut", 0, 1, 1), ("turn",), ("turn", -1), ("turn", True), ("turn", None),
    ("turn", 0, 0), ("turn", "0"), ("turn", [0]), ("loose",), ("loose", -1), ("loose", False), ("loose", 0, 1),
    ("loose", (0,)), ("back",), ("again",), ("free",), ("Put", AB, 1), ("", 1), (None, AB, 1), (0, 1), (("put",), AB, 1),
    (["lay"], [(1, RING)]), "put", "turn 0", (), [], {"turn": 0}, {"turn"}, None, 0, True, AB, (AB, 1), ("joins", 0, 1),
]


class PlainYard:
    """A yard of few carts, in which each deed is done as the document tells it, on trains told step by step."""

    def __init__(self, heap):
        self.free = dict(heap.carts())
        self.trains = []

    def expected(self, deed):
        """Return the error that a deed raises, a tuple of its class and its argument, or None."""
        word, told = deed[0], deed[1:]
        if word in ("put", "out", "lay"):
            needed = {told[0]: told[1]} if word == "out" else carts_of(told[0]) if word == "lay" else {}
            short = sorted(cart for cart in needed if self.free.get(cart, 0) < needed[cart])
            return (Missing, short[0]) if short else None
        if told[0] >= len(self.trains):
            return (NoPlace, told[0])
        row = long_row(self.trains[told[0]])
        if word == "join":
            if told[1] >= len(self.trains) or told[1] == told[0]:
                return (NoPlace, told[1])
            return None if train_ends([(1, row)])[1] == train_ends(self.trains[told[1]])[0] else (Loose, None)
        if word == "cut" and told[1] >= len(row):
            return (NoPlace, told[1])
        fixed = [index for index, step in enumerate(row) if not step[0][2]]
        return (Fixed, fixed[0]) if word == "turn" and fixed else None

    def do(self, deed):
        """Do a deed that raises no error."""
        word, told = deed[0], copy.deepcopy(deed[1:])
        if word == "put":
            self.add(told[0], told[1])
        elif word == "out":
            self.add(told[0], -told[1])
        elif word == "lay":
            for cart, number in carts_of(told[0]).items():
                self.add(cart, -number)
            self.trains.append(told[0])
        elif word == "join":
            self.trains[told[0]] = self.trains[told[0]] + self.trains[told[1]]
            del self.trains[told[1]]
        elif word == "cut":
            self.trains[told[0]:told[0] + 1] = self.cut(self.trains[told[0]], told[1])
        elif word == "turn":
            self.trains[told[0]] = train_about(self.trains[told[0]])
        else:
            for cart, number in carts_of(self.trains.pop(told[0])).items():
                self.add(cart, number)

    def add(self, cart, number):
        """Put so many more of a cart to the free ones."""
        self.free[cart] = self.free.get(cart, 0) + number
        if self.free[cart] == 0:
            del self.free[cart]

    @staticmethod
    def cut(train, at):
        """Return the two trains of a cut, found step by step."""
        sides = ([], [])
        passed = 0
        for many, row in train:
            copies = [(row, passed + k * len(row)) for k in range(many)]
            ahead = [one for one, place in copies if place + len(row) <= at]
            behind = [one for one, place in copies if place >= at]
            split = [(one, at - place) for one, place in copies if place < at < place + len(row)]
            if ahead:
                sides[0].append((len(ahead), row))
            for one, k in split:
                sides[0].append((1, one[:k]))
                sides[1].append((1, one[k:]))
            if behind:
                sides[1].append((len(behind), row))
            passed += many * len(row)
        return [list(side) for side in sides]


def some_deed(source, plain):
    """Return a deed that may, or may not, be done in a plain yard."""
    carts = [AB, BA, TURN, BC, CC, DD, ("a", "a", True)]
    index, other = source.randrange(len(plain.trains) + 2), source.randrange(len(plain.trains) + 2)
    word = source.choice(["put", "out", "lay", "lay", "lay", "join", "join", "join", "cut", "turn", "turn", "loose"])
    if word in ("put", "out"):
        return (word, source.choice(carts), source.choice([1, 1, 2, 3]))
    if word == "join":
        return (word, index, other)
    if word == "cut":
        return (word, index, source.choice([1, 2, 3, 5, 8]))
    if word in ("turn", "loose"):
        return (word, index)
    first = source.choice([step for cart in (sorted(plain.free) or carts) for step in steps_of(cart)])
    rows = [[first], [first], [(TURN, False), (TURN, True)], RING, RING * 2, [(AB, False), (BC, False), (CC, False)]]
    row = source.choice(rows)
    many = source.choice([1, 2, 3]) if train_ends([(1, row)])[0] == train_ends([(1, row)])[1] else 1
    return (word, [(many, row)])
