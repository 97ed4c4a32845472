import unittest

from hookcarts.carts import cart_of
from hookcarts.errors import Both
from hookcarts.fewest import fewest, shown
from hookcarts.heaps import Heap
from hookcarts.strains import greatest, strain, worst
from tests.things import GREAT, all_sides, plain_fewest, some_heaps

AB, BA, TURN = cart_of("a", "b"), cart_of("b", "a"), cart_of("a", "b", turns=True)
CC, DD = cart_of("c", "c", turns=True), cart_of("d", "d")
MIXED = Heap({AB: 3, TURN: 1, CC: 7})
EMPTY = Heap({})
SMALL = [EMPTY, MIXED, *some_heaps(150, ["a", "b", "c", "d"], 5, [1, 2, 3])]
LARGE = some_heaps(60, ["a", "b", "c", "d", "e"], 12, [1, 2, GREAT, GREAT - 1, GREAT - 7, GREAT // 3, 10 ** 15])
NAMES = {"a": "d", "b": "a", "c": "zz", "d": "b", "e": "c"}


class FewestTest(unittest.TestCase):
    def test_fewest(self):
        self.assertEqual(fewest(EMPTY), 0)
        self.assertEqual(fewest(Heap({AB: 1})), 1)
        self.assertEqual(fewest(Heap({AB: 5})), 5)
        self.assertEqual(fewest(Heap({AB: 5, BA: 2})), 3)
        self.assertEqual(fewest(Heap({AB: 5, TURN: 2})), 3)
        self.assertEqual(fewest(Heap({AB: 5, BA: 5})), 1)
        self.assertEqual(fewest(Heap({TURN: 7})), 1)
        self.assertEqual(fewest(Heap({CC: 7})), 1)
        self.assertEqual(fewest(Heap({CC: 7, DD: 1})), 2)
        self.assertEqual(fewest(Heap({cart_of("a", kind, turns=True): 1 for kind in "bcde"})), 2)

    def test_several_lots(self):
        self.assertEqual(fewest(Heap({AB: 5, CC: 7, DD: 3})), 7)
        self.assertEqual(fewest(Heap({AB: 1, BA: 1, CC: 7, DD: 3})), 3)
        for heap in [*SMALL, *LARGE]:
            lots = heap.lots()
            self.assertEqual(fewest(heap), sum(fewest(lot) for lot in lots))
            self.assertEqual(fewest(heap), sum(max(1, greatest(lot) // 2) for lot in lots))

    def test_great_numbers(self):
        self.assertEqual(fewest(Heap({AB: GREAT})), GREAT)
        self.assertEqual(fewest(Heap({AB: GREAT, BA: GREAT - 1})), 1)
        self.assertEqual(fewest(Heap({AB: GREAT, BA: 1, TURN: 7})), GREAT - 8)
        self.assertEqual(fewest(Heap({TURN: GREAT, CC: GREAT})), 2)
        self.assertEqual(fewest(Heap({AB: GREAT, cart_of("c", "d"): GREAT})), 2 * GREAT)

    def test_carts_coupled_one_by_one(self):
        for heap in SMALL:
            self.assertEqual(fewest(heap), plain_fewest(heap))

    def test_one_cart_more(self):
        carts = [AB, BA, TURN, CC, DD, cart_of("b", "d"), cart_of("c", "d", turns=True), cart_of("x", "x")]
        for heap in [*SMALL, *LARGE[:20]]:
            for cart in carts:
                self.assertLessEqual(abs(fewest(heap.put(cart)) - fewest(heap)), 1)

    def test_kinds_exchanged(self):
        for heap in [*SMALL, *LARGE]:
            self.assertEqual(fewest(heap.renamed(NAMES)), fewest(heap))
            self.assertEqual(fewest(heap.about()), fewest(heap))

    def test_shown(self):
        self.assertEqual(shown(Heap({AB: 5, CC: 1, DD: 1}), ["a"], ["b"]), 7)
        self.assertEqual(shown(Heap({AB: 5, CC: 1, DD: 1}), ["b"], ["a"]), 3)
        self.assertEqual(shown(Heap({AB: 5}), [], []), 1)
        self.assertEqual(shown(Heap({AB: GREAT, CC: GREAT}), ["a"], ["c", "b"]), GREAT + 1)
        self.assertEqual(shown(EMPTY, [], []), 0)
        self.assertEqual(shown(EMPTY, ["a"], ["b"]), 0)

    def test_no_more_are_shown_than_needed(self):
        for heap in [*SMALL, *LARGE[:8]]:
            for highs, lows in all_sides(heap.kinds()):
                told = sum(max(2, strain(lot, highs, lows)) // 2 for lot in heap.lots())
                self.assertEqual(shown(heap, highs, lows), told)
                self.assertLessEqual(told, fewest(heap))

    def test_the_worst_show_the_fewest(self):
        for heap in [*SMALL, *LARGE]:
            highs, lows = worst(heap)
            self.assertEqual(shown(heap, highs, lows), fewest(heap))

    def test_kinds_that_the_heap_has_not(self):
        for heap in SMALL[:20]:
            for highs, lows in all_sides(heap.kinds()):
                self.assertEqual(shown(heap, ["x", *highs, "y"], [*lows, "z"]), shown(heap, highs, lows))

    def test_both(self):
        for heap in [MIXED, EMPTY]:
            for highs, lows, kind in [(["a"], ["a"], "a"), (["c", "b", "a"], ["d", "c", "b"], "b"), (["y"], ["y"], "y"),
                                      (["z", "a"], ["z", "b"], "z"), (["z", "c"], ["c", "z"], "c")]:
                before = [list(highs), list(lows)]
                with self.assertRaises(Both) as caught:
                    shown(heap, highs, lows)
                self.assertEqual(caught.exception.kind, kind)
                self.assertEqual([highs, lows], before)

    def test_the_example_of_the_document(self):
        told = [strain(MIXED, ["a"], ["b"]), strain(MIXED, [], []), greatest(MIXED), fewest(MIXED),
                shown(MIXED, [], [])]
        self.assertEqual(told, [4, 0, 4, 3, 2])
