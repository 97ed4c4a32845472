import copy
import unittest

from hookcarts.carts import cart_of
from hookcarts.errors import NoKind
from hookcarts.heaps import Heap
from hookcarts.lots import hang, holding, is_cut, is_links, links, lot_of
from tests.things import GREAT, some_heaps, strange_values

AB, BA, TURN = cart_of("a", "b"), cart_of("b", "a"), cart_of("a", "b", turns=True)
BC, CC, DD = cart_of("c", "b", turns=True), cart_of("c", "c", turns=True), cart_of("d", "d")
HEAP = Heap({AB: 2, BC: 1, DD: GREAT})
EMPTY = Heap({})
HEAPS = [HEAP, *some_heaps(150, ["a", "b", "c", "d", "e"], 7, [1, 2, GREAT])]


def linked(carts, one):
    """Return the kinds that carts link with one, found by looking at all carts again and again."""
    found = {one}
    while True:
        more = {kind for cart in carts for kind in cart[:2] if found & set(cart[:2])}
        if more <= found:
            return found
        found |= more


def all_links(heap, one, other, most):
    """Return all lists of at most so many carts of a heap that link two kinds."""
    found, ahead = [], [([], one)]
    for _ in range(most + 1):
        found.extend(carts for carts, kind in ahead if kind == other)
        ahead = [([*carts, cart], cart[1] if kind == cart[0] else cart[0])
                 for carts, kind in ahead for cart in heap if kind in cart[:2]]
    return found


def all_choices(things):
    """Return all lists of some of the things."""
    choices = [[]]
    for thing in things:
        choices = [chosen for choice in choices for chosen in (choice, [*choice, thing])]
    return choices


class LotsTest(unittest.TestCase):
    def assert_no_kind(self, thing, function, *arguments):
        with self.assertRaises(NoKind) as caught:
            function(*arguments)
        self.assertIs(caught.exception.kind, thing)

    def test_hang(self):
        self.assertIs(hang(HEAP, "a", "c"), True)
        self.assertIs(hang(HEAP, "c", "a"), True)
        self.assertIs(hang(HEAP, "a", "d"), False)
        self.assertIs(hang(HEAP, "d", "d"), True)
        for heap in HEAPS:
            for one in heap.kinds():
                for other in heap.kinds():
                    self.assertIs(hang(heap, one, other), other in linked(heap, one))

    def test_no_kinds(self):
        for thing in ["e", "zzzzzzzz", 3, *strange_values()]:
            with self.subTest(thing=repr(thing)[:60]):
                self.assert_no_kind(thing, hang, HEAP, thing, "a")
                self.assert_no_kind(thing, hang, HEAP, "a", thing)
                self.assert_no_kind(thing, hang, HEAP, thing, thing)
                self.assert_no_kind(thing, lot_of, HEAP, thing)
                self.assert_no_kind(thing, links, HEAP, thing, "a")
                self.assert_no_kind(thing, links, HEAP, "a", thing)
                self.assert_no_kind(thing, is_links, HEAP, thing, "a", [])
                self.assert_no_kind(thing, is_links, HEAP, "a", thing, [])
                self.assert_no_kind(thing, is_links, HEAP, "a", thing, None)
                self.assert_no_kind(thing, hang, EMPTY, thing, thing)

    def test_the_first_one_that_is_no_kind(self):
        for function, rest in [(hang, []), (links, []), (is_links, [[AB]])]:
            first, second = ["x"], ["y"]
            self.assert_no_kind(first, function, HEAP, first, second, *rest)
            self.assert_no_kind("x", function, HEAP, "x", "y", *rest)
            self.assert_no_kind("y", function, HEAP, "d", "y", *rest)

    def test_lot_of(self):
        self.assertEqual(lot_of(HEAP, "a"), Heap({AB: 2, BC: 1}))
        self.assertEqual(lot_of(HEAP, "c"), Heap({AB: 2, BC: 1}))
        self.assertEqual(lot_of(HEAP, "d"), Heap({DD: GREAT}))
        for heap in HEAPS:
            lots = heap.lots()
            for kind in heap.kinds():
                self.assertEqual([lot_of(heap, kind)], [lot for lot in lots if kind in lot.kinds()])

    def test_links(self):
        self.assertEqual(links(HEAP, "a", "c"), [AB, BC])
        self.assertEqual(links(HEAP, "c", "a"), [BC, AB])
        self.assertEqual(links(HEAP, "b", "b"), [])
        self.assertIsNone(links(HEAP, "a", "d"))
        self.assertEqual(links(Heap({TURN: 1, BA: 1, AB: 1}), "a", "b"), [AB])
        self.assertEqual(links(Heap({TURN: 1, BA: 1}), "b", "a"), [TURN])

    def test_the_least_of_the_shortest_links(self):
        # From a to d lead: a-c-d with the lesser first cart, and a-b-d with the lesser carts counted from d.
        heap = Heap({("c", "a", False): 1, ("a", "d", True): 1, ("d", "e", False): 1, ("a", "b", True): 1,
                     ("b", "e", False): 1, ("a", "c", False): 1, ("c", "e", False): 1})
        self.assertEqual(links(heap, "a", "e"), [("a", "b", True), ("b", "e", False)])
        self.assertEqual(links(heap, "e", "a"), [("b", "e", False), ("a", "b", True)])
        later = Heap({("a", "c", False): 1, ("b", "a", False): 1, ("b", "d", False): 1, ("c", "d", False): 1})
        self.assertEqual(links(later, "a", "d"), [("a", "c", False), ("c", "d", False)])

    def test_links_of_many_heaps(self):
        for heap in HEAPS:
            if len(heap) <= 5:
                for one in heap.kinds():
                    for other in heap.kinds():
                        told = all_links(heap, one, other, 4)
                        expected = min(told, key=lambda carts: (len(carts), carts)) if told else None
                        self.assertEqual(links(heap, one, other), expected)

    def test_lists_of_links_are_new(self):
        links(HEAP, "a", "c").clear()
        self.assertEqual(len(links(HEAP, "a", "c")), 2)

    def test_is_links(self):
        for thing in [[AB, BC], [AB, AB, AB, BC], [AB, BC, CC, BC, BC]]:
            self.assertIs(is_links(HEAP.put(CC), "a", "c", thing), True)
        for thing in [[], [AB], [BC, AB], [AB, BC, BC], [BC], [AB, BC, DD], [AB, TURN, BC], (AB, BC), {AB: 1}, AB]:
            self.assertIs(is_links(HEAP, "a", "c", thing), False)
        self.assertIs(is_links(HEAP, "a", "c", [AB, BC, CC]), False)
        self.assertIs(is_links(HEAP, "c", "a", [BC, AB]), True)
        self.assertIs(is_links(HEAP, "d", "d", [DD]), True)
        self.assertIs(is_links(HEAP, "d", "d", [DD] * 1000), True)
        self.assertIs(is_links(HEAP, "d", "d", []), True)
        self.assertIs(is_links(HEAP, "a", "d", []), False)
        self.assertIs(is_links(HEAP, "a", "d", [AB, DD]), False)

    def test_is_links_of_any_values(self):
        heap = Heap({TURN: 1, CC: 1})
        for thing in strange_values():
            before = copy.deepcopy(thing)
            with self.subTest(thing=repr(thing)[:60]):
                self.assertIs(is_links(heap, "a", "b", [thing]), False)
                self.assertIs(is_links(heap, "a", "b", [TURN, thing]), False)
                self.assertIs(is_links(heap, "c", "c", thing), thing == [] and isinstance(thing, list))
                self.assertEqual(thing, before)
        self.assertIs(is_links(heap, "a", "b", [("a", "b", 1)]), False)
        self.assertIs(is_links(heap, "a", "b", [("b", "a", True)]), False)

    def test_all_lists_that_link(self):
        for heap in HEAPS[:60]:
            if len(heap) <= 4:
                for one in heap.kinds():
                    for other in heap.kinds():
                        told = all_links(heap, one, other, 3)
                        for third in heap.kinds():
                            for thing in told:
                                self.assertIs(is_links(heap, one, third, thing), third == other)

    def test_is_cut(self):
        for thing in [["d"], ["a", "b", "c"], ["c", "a", "b"]]:
            self.assertIs(is_cut(HEAP, thing), True)
        for thing in [[], ["a"], ["a", "b"], ["a", "d"], ["a", "b", "c", "d"], ["d", "d"], ["e"], ["d", "e"], ("d",),
                      "d", {"d": 1}, {"d"}, ["d", None], [None], [["d"]], ["a", "b", "c", "a"], [True], None]:
            self.assertIs(is_cut(HEAP, thing), False)
        for thing in strange_values():
            before = copy.deepcopy(thing)
            self.assertIs(is_cut(HEAP, thing), False)
            self.assertIs(is_cut(HEAP, [thing]), False)
            self.assertIs(is_cut(HEAP, ["d", thing]), False)
            self.assertIs(is_cut(EMPTY, thing), False)
            self.assertEqual(thing, before)

    def test_all_lists_of_kinds(self):
        for heap in HEAPS:
            kinds = heap.kinds()
            for thing in all_choices(kinds):
                closed = all(linked(heap, kind) <= set(thing) for kind in thing)
                self.assertIs(is_cut(heap, thing[::-1]), closed and 0 < len(thing) < len(kinds))

    def test_holding(self):
        self.assertEqual(holding(HEAP), [AB, BC])
        self.assertEqual(holding(HEAP.put(TURN)), [BC])
        self.assertEqual(holding(HEAP.put(BA, GREAT)), [BC])
        self.assertEqual(holding(Heap({DD: 1, CC: 1})), [])
        self.assertEqual(holding(EMPTY), [])
        self.assertEqual(holding(Heap({AB: GREAT})), [AB])
        self.assertEqual(holding(Heap({("c", "b", False): 1, AB: 1})), [AB, ("c", "b", False)])
        self.assertEqual(holding(Heap({AB: 1, BC: 1, ("c", "a", False): 1})), [])
        holding(HEAP).clear()
        self.assertEqual(len(holding(HEAP)), 2)

    def test_holding_of_many_heaps(self):
        for heap in [*HEAPS, *some_heaps(150, ["a", "b", "c", "d", "e", "f", "g"], 10, [1, 2])]:
            expected = []
            for cart in heap:
                rest = [other for other in heap if other != cart]
                if cart[0] != cart[1] and cart[1] not in linked(rest, cart[0]):
                    expected.append(cart)
            self.assertEqual(holding(heap), expected)

    def test_heaps_of_many_carts(self):
        names = [f"{one}{other}" for one in "abcdefghijklmnopqrst" for other in "abcdefghijklmnopqrst"]
        carts = {(one, other, False): GREAT for one, other in zip(names, names[1:])}
        chain = Heap({**carts, ("z", "z", True): 1})
        self.assertIs(hang(chain, names[0], names[-1]), True)
        self.assertEqual(links(chain, names[0], names[-1]), list(carts))
        self.assertEqual(links(chain, names[-1], names[0]), list(carts)[::-1])
        self.assertEqual(holding(chain), list(carts))
        self.assertEqual(holding(chain.put((names[0], names[-1], True))), [])
        self.assertEqual(holding(chain.put((names[5], names[-1], True))), list(carts)[:5])
        self.assertIs(is_cut(chain, names), True)
        self.assertIs(is_cut(chain, names[1:]), False)
        self.assertIs(is_links(chain, names[0], names[-1], list(carts)), True)

    def test_the_example_of_the_document(self):
        told = [links(HEAP, "a", "c"), lot_of(HEAP, "d").count() == 10 ** 30, is_cut(HEAP, ["d"]), holding(HEAP)]
        self.assertEqual(told, [[("a", "b", False), ("b", "c", True)], True, True,
                                [("a", "b", False), ("b", "c", True)]])
