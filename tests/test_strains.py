import unittest

from hookcarts.carts import cart_of
from hookcarts.errors import Both
from hookcarts.heaps import Heap
from hookcarts.strains import greatest, strain, worst
from hookcarts.turnings import best_turning, spread
from tests.things import GREAT, all_sides, all_turnings, some_heaps

AB, BA, TURN = cart_of("a", "b"), cart_of("b", "a"), cart_of("a", "b", turns=True)
MIXED = Heap({AB: 3, TURN: 1, ("c", "c", True): 7})
EMPTY = Heap({})
SMALL = [EMPTY, MIXED, *some_heaps(80, ["a", "b", "c", "d"], 5, [1, 2, 3])]
LARGE = some_heaps(60, ["a", "b", "c", "d", "e"], 12, [1, 2, GREAT, GREAT - 1, GREAT - 7, GREAT // 3, 10 ** 15])
NAMES = {"a": "d", "b": "a", "c": "zz", "d": "b", "e": "c"}


def strain_told(heap, highs, lows):
    """Return the strain, as the document tells what it is."""
    worth = {**dict.fromkeys(highs, 1), **dict.fromkeys(lows, -1)}
    odd = [kind for kind in heap.kinds() if heap.hooks(kind) % 2 == 1 and worth.get(kind, 0) == 0]
    fixed = sum(heap[cart] * (worth.get(cart[0], 0) - worth.get(cart[1], 0)) for cart in heap if not cart[2])
    turning = sum(heap[cart] * abs(worth.get(cart[0], 0) - worth.get(cart[1], 0)) for cart in heap if cart[2])
    return fixed - turning + len(odd)


class StrainsTest(unittest.TestCase):
    def test_strain(self):
        self.assertEqual(strain(Heap({AB: 5}), ["a"], ["b"]), 10)
        self.assertEqual(strain(Heap({AB: 5}), ["b"], ["a"]), -10)
        self.assertEqual(strain(Heap({AB: 5}), ["a"], []), 6)
        self.assertEqual(strain(Heap({AB: 5}), [], []), 2)
        self.assertEqual(strain(Heap({AB: 4}), [], ["b"]), 4)
        self.assertEqual(strain(Heap({TURN: 3}), ["a"], ["b"]), -6)
        self.assertEqual(strain(Heap({TURN: 3}), ["b"], ["a"]), -6)
        self.assertEqual(strain(Heap({TURN: 3}), ["a", "b"], []), 0)
        self.assertEqual(strain(Heap({AB: GREAT, BA: GREAT - 1}), ["a"], ["b"]), 2)
        self.assertEqual(strain(EMPTY, ["a"], ["b"]), 0)

    def test_strains_of_all_highs_and_lows(self):
        for heap in [*SMALL, *LARGE[:8]]:
            for highs, lows in all_sides(heap.kinds()):
                self.assertEqual(strain(heap, highs, lows), strain_told(heap, highs, lows))
                self.assertEqual(strain(heap, highs[::-1], lows[::-1]), strain_told(heap, highs, lows))

    def test_kinds_that_the_heap_has_not_change_nothing(self):
        for heap in SMALL[:20]:
            for highs, lows in all_sides(heap.kinds()):
                self.assertEqual(strain(heap, ["x", *highs, "y"], [*lows, "z"]), strain(heap, highs, lows))

    def test_both(self):
        for heap in [MIXED, EMPTY]:
            for highs, lows, kind in [(["a"], ["a"], "a"), (["c", "b", "a"], ["d", "c", "b"], "b"), (["y"], ["y"], "y"),
                                      (["z", "a"], ["z", "b"], "z"), (["z", "c"], ["c", "z"], "c")]:
                before = [list(highs), list(lows)]
                with self.assertRaises(Both) as caught:
                    strain(heap, highs, lows)
                self.assertEqual(caught.exception.kind, kind)
                self.assertEqual([highs, lows], before)

    def test_arguments_stay_as_they_are(self):
        highs, lows = ["c", "a"], ["x", "b"]
        strain(MIXED, highs, lows)
        self.assertEqual([highs, lows], [["c", "a"], ["x", "b"]])

    def test_greatest(self):
        self.assertEqual(greatest(EMPTY), 0)
        self.assertEqual(greatest(Heap({AB: 1})), 2)
        self.assertEqual(greatest(Heap({AB: 5, TURN: 2})), 6)
        self.assertEqual(greatest(Heap({("a", "a", False): GREAT})), 0)
        self.assertEqual(greatest(Heap({AB: GREAT, TURN: GREAT - 1})), 2)
        self.assertEqual(greatest(Heap({AB: GREAT, BA: 1, TURN: 7})), 2 * (GREAT - 8))
        for heap in SMALL:
            self.assertEqual(greatest(heap), max(strain_told(heap, *sides) for sides in all_sides(heap.kinds())))

    def test_worst(self):
        self.assertEqual(worst(EMPTY), ((), ()))
        self.assertEqual(worst(Heap({AB: 5, TURN: 2})), (("a",), ("b",)))
        for heap in [*SMALL, *LARGE]:
            sides = worst(heap)
            self.assertIs(type(sides), tuple)
            highs, lows = sides
            for side in [highs, lows]:
                self.assertIs(type(side), tuple)
                self.assertEqual(list(side), sorted(set(side)))
                self.assertTrue(set(side) <= set(heap.kinds()))
            self.assertEqual(set(highs) & set(lows), set())
            self.assertEqual(strain(heap, list(highs), list(lows)), greatest(heap))
            self.assertEqual(strain(heap, highs, lows), greatest(heap))

    def test_no_strain_is_greater_than_any_spread(self):
        for heap in SMALL:
            spreads = [spread(heap, turning) for turning in all_turnings(heap)]
            strains = [strain(heap, *sides) for sides in all_sides(heap.kinds())]
            self.assertEqual(max(strains), min(spreads))
            self.assertEqual([greatest(heap), spread(heap, best_turning(heap))], [max(strains), min(spreads)])

    def test_great_heaps(self):
        for heap in LARGE:
            self.assertEqual(greatest(heap), spread(heap, best_turning(heap)))

    def test_strains_are_sums_over_lots_and_even_in_each(self):
        for heap in [*SMALL, *LARGE[:10]]:
            lots = heap.lots()
            for highs, lows in all_sides(heap.kinds()):
                strains = [strain(lot, highs, lows) for lot in lots]
                self.assertEqual(sum(strains), strain(heap, highs, lows))
                self.assertTrue(all(number % 2 == 0 for number in strains))
            self.assertEqual(sum(greatest(lot) for lot in lots), greatest(heap))

    def test_kinds_exchanged(self):
        for heap in [*SMALL, *LARGE[:8]]:
            renamed = heap.renamed(NAMES)
            self.assertEqual(greatest(renamed), greatest(heap))
            self.assertEqual(greatest(heap.about()), greatest(heap))
            for highs, lows in all_sides(heap.kinds()):
                told = strain(renamed, [NAMES[kind] for kind in highs], [NAMES[kind] for kind in lows])
                self.assertEqual(told, strain(heap, highs, lows))
                self.assertEqual(strain(heap.about(), lows, highs), strain(heap, highs, lows))

    def test_the_example_of_the_document(self):
        told = [strain(MIXED, ["a"], ["b"]), strain(MIXED, [], []), greatest(MIXED)]
        self.assertEqual(told, [4, 0, 4])
