import unittest

from hookcarts.alikes import alike, telling
from hookcarts.carts import cart_of
from hookcarts.fewest import fewest
from hookcarts.heaps import Heap
from tests.things import GREAT, some_heaps

AB, BA, TURN = cart_of("a", "b"), cart_of("b", "a"), cart_of("a", "b", turns=True)
AA, BB, CC, BC = cart_of("a", "a"), cart_of("b", "b", turns=True), cart_of("c", "c"), cart_of("b", "c", turns=True)
AC, CA, CB, DD = cart_of("a", "c"), cart_of("c", "a"), cart_of("c", "b"), cart_of("d", "d", turns=True)
EMPTY = Heap({})
ROUND = Heap({AB: 1, cart_of("b", "c"): 1, CA: 1})
FURTHERS = [EMPTY, *some_heaps(60, ["a", "b", "c", "d"], 4, [1, 2, 5]),
            *some_heaps(60, ["a", "b", "c", "d", "e"], 6, [1, GREAT, 10 ** 15])]
NAMES = {"a": "d", "b": "a", "c": "zz", "d": "b", "e": "c"}

# Carts as keys and numbers, of heaps that are alike.
ALIKES = [
    ({}, {}), ({AB: 3}, {AB: 3}), ({AB: 3}, {AB: 4, BA: 1}), ({AB: GREAT, BA: GREAT}, {AB: 1, BA: 1}),
    ({AA: 1}, {AA: GREAT}), ({AA: 1}, {cart_of("a", "a", turns=True): 5}), ({AB: 2, BB: 7}, {AB: 2}),
    ({TURN: 3, AB: 5, BA: 5}, {TURN: 3}), ({TURN: 3, AB: 5, BA: 4}, {TURN: 3, AB: 1}),
    ({AC: 2, CB: 2, AB: 1, CC: 4}, {AB: 3, AC: 1, CA: 1}),
    ({AB: 1, BA: 1, AC: 1, CA: 1}, {AB: 1, cart_of("b", "c"): 1, CA: 1}),
    ({AA: 1, DD: 2, BC: 5}, {AA: 3, DD: 1, BC: 5, CC: 1}),
]

# Of heaps that are not.
OTHERS = [
    ({}, {AA: 1}), ({AA: 1}, {BB: 1}), ({AA: 1, BB: 2}, {AB: 4, BA: 4}), ({AB: 3}, {AB: 4}), ({AB: 3}, {BA: 3}),
    ({TURN: 3}, {TURN: 5}), ({TURN: 3}, {TURN: 4}), ({TURN: 1}, {AB: 1}), ({TURN: 2}, {AB: 1, BA: 1}),
    ({AB: GREAT}, {AB: GREAT - 1}), ({TURN: GREAT}, {TURN: GREAT - 1}), ({TURN: GREAT}, {TURN: GREAT - 2}),
    ({CC: 1}, {AB: 1, BA: 1}), ({AB: 1, BA: 1, CC: 1}, {AA: 1, BB: 1, CC: 1}), ({AA: 1, BB: 1}, {AA: 1, CC: 1}),
    ({AB: 1, BA: 1, CC: 1}, {AC: 1, CA: 1, BB: 1}), ({TURN: 1, CC: 1}, {TURN: 1, DD: 1}),
    ({TURN: 1, CC: 1, DD: 1}, {TURN: 1, cart_of("c", "d"): 1, cart_of("d", "c"): 1}),
    ({AB: 1, BA: 1, BC: 3}, {AA: 1, BC: 3}), ({AB: 2, CC: 1, DD: 3}, {AB: 2, AC: 1, CA: 1, DD: 1}),
    ({AB: 1, AC: 1, BC: 1}, {AB: 1, AC: 1, BC: 2}), ({TURN: 2, BC: 1}, {TURN: 1, BC: 2}),
    ({TURN: 1, cart_of("c", "d", turns=True): 1}, {TURN: 1, cart_of("c", "d", turns=True): 1, AC: 1, CA: 1}),
    ({TURN: 3, cart_of("c", "d", turns=True): 2}, {TURN: 3, cart_of("c", "d", turns=True): 2, AC: GREAT, CA: GREAT}),
    ({AB: 1, AC: 1, cart_of("a", "d"): 1}, {AB: 1, AC: 1, cart_of("a", "d"): 1, cart_of("e", "e"): 1}),
]


def heaps_of(pairs):
    """Return the Heaps of pairs of dicts."""
    return [(Heap(one), Heap(other)) for one, other in pairs]


class AlikesTest(unittest.TestCase):
    def assert_told(self, one, other):
        further = telling(one, other)
        self.assertIs(type(further), Heap)
        self.assertNotEqual(fewest(one + further), fewest(other + further))

    def test_alike(self):
        for one, other in heaps_of(ALIKES):
            self.assertIs(alike(one, other), True)
            self.assertIs(alike(other, one), True)
            self.assertIsNone(telling(one, other))
            self.assertIsNone(telling(other, one))

    def test_not_alike(self):
        for one, other in heaps_of(OTHERS):
            self.assertIs(alike(one, other), False)
            self.assertIs(alike(other, one), False)
            self.assert_told(one, other)
            self.assert_told(other, one)

    def test_alike_heaps_go_into_equally_few_trains_with_each_further_one(self):
        for one, other in heaps_of(ALIKES):
            for further in FURTHERS:
                self.assertEqual(fewest(one + further), fewest(other + further))

    def test_some_heaps(self):
        heaps = some_heaps(40, ["a", "b", "c"], 3, [1, 2])
        for one in heaps:
            for other in heaps:
                if alike(one, other):
                    self.assertIsNone(telling(one, other))
                    for further in FURTHERS[:12]:
                        self.assertEqual(fewest(one + further), fewest(other + further))
                else:
                    self.assert_told(one, other)

    def test_heaps_of_which_only_the_lots_differ(self):
        kinds = ["a", "b", "c", "d", "e"]
        rings = [Heap({cart_of(one, other): 1, cart_of(other, one): 1}) for one in kinds for other in kinds]
        rings += [Heap({cart_of(one, one): many}) for one in kinds for many in [1, GREAT]]
        both = {True: 0, False: 0}
        for heap in some_heaps(15, kinds, 5, [1, 2, GREAT, GREAT + 1]):
            for one, other in zip(rings, rings[7:] + rings[:7]):
                same = [lot.kinds() for lot in (heap + one).lots()] == [lot.kinds() for lot in (heap + other).lots()]
                both[same] += 1
                self.assertIs(alike(heap + one, heap + other), same)
                if same:
                    self.assertIsNone(telling(heap + one, heap + other))
                else:
                    self.assert_told(heap + one, heap + other)
        self.assertGreater(min(both.values()), 50)

    def test_heaps_of_which_numbers_differ(self):
        for heap in some_heaps(30, ["a", "b", "c", "d", "e"], 8, [1, 2, GREAT]):
            for cart in [AB, BC, cart_of("d", "e"), cart_of("a", "e", turns=True)]:
                for many in [1, 2, GREAT]:
                    more = heap.put(cart, many)
                    self.assertIs(alike(heap, more), False)
                    self.assert_told(heap, more)

    def test_kinds_exchanged(self):
        for one, other in heaps_of([*ALIKES, *OTHERS]):
            names = {**NAMES, "zz": "e"}
            self.assertIs(alike(one.renamed(names), other.renamed(names)), alike(one, other))
            self.assertIs(alike(one.about(), other.about()), alike(one, other))

    def test_equal_heaps_give_equal_results(self):
        for one, other in heaps_of(OTHERS):
            self.assertEqual(telling(one, other), telling(Heap(one.carts()), Heap(other.carts())))

    def test_what_is_told_may_be_told_apart_again(self):
        for one, other in heaps_of(OTHERS)[:6]:
            further = telling(one, other)
            self.assertIs(alike(one + further, other + further), False)
            self.assert_told(one + further, other + further)

    def test_the_example_of_the_document(self):
        one = Heap({("a", "a", True): 1, ("b", "b", True): 2})
        other = Heap({("a", "b", False): 4, ("b", "a", False): 4})
        told = [alike(one, other), telling(one, other) is None, alike(one, 3 * one), telling(one, one)]
        self.assertEqual(told, [False, False, True, None])
