import math
import unittest

from hookcarts.carts import begin_of, cart_of, end_of
from hookcarts.heaps import Heap
from hookcarts.turnings import balances, is_turning
from hookcarts.ways import begins, turnings_told, ways, ways_beginning, ways_by, ways_led
from tests.things import all_turnings, has_twice, plain_ways, some_heaps, whole_rows

AB, BA, TURN = cart_of("a", "b"), cart_of("b", "a"), cart_of("a", "b", turns=True)
BC, CC, DD = cart_of("b", "c", turns=True), cart_of("c", "c", turns=True), cart_of("d", "d")
EMPTY = Heap({})
HEAP = Heap({AB: 1, TURN: 1, BC: 1})
FEW = [heap for heap in [HEAP, *some_heaps(250, ["a", "b", "c"], 4, [1, 2]), *some_heaps(100, ["a", "b"], 4, [1, 2, 3])]
       if heap.count() < 8]
# As many carts as the document allows, or nearly so.
FULL = [Heap({TURN: 7, BC: 7, cart_of("a", "c", turns=True): 8}), Heap({TURN: 24}), Heap({AB: 9, BA: 9, TURN: 5}),
        Heap({AB: 12, BA: 12}), Heap({DD: 24}), Heap({AB: 3, BA: 3, TURN: 3, CC: 3, BC: 1}),
        Heap({cart_of(one, two, turns=turns): 1 for one, two, turns in [
            ("a", "b", True), ("b", "c", True), ("c", "d", True), ("d", "e", True), ("a", "e", True), ("b", "e", True),
            ("a", "b", False), ("c", "a", False), ("e", "d", False)]})]
NAMES = {"a": "d", "b": "a", "c": "zz", "d": "b", "e": "c"}


def turned_in_row(heap, row):
    """Return the turning of a heap by which the carts of a whole row stand."""
    return {cart: row.count((cart, True)) for cart in heap if cart[2] and cart[0] != cart[1]}


class WaysTest(unittest.TestCase):
    def test_no_carts(self):
        self.assertEqual([ways(EMPTY), ways_led(EMPTY, "a", "a"), ways_by(EMPTY, {}), begins(EMPTY)], [0, 0, 0, {}])
        self.assertEqual([ways_beginning(EMPTY, [(AB, False)]), turnings_told(EMPTY)], [0, []])

    def test_ways(self):
        told = [({AB: 1}, 1), ({AB: 2}, 0), ({TURN: 1}, 2), ({TURN: 2}, 2), ({DD: 24}, 1), ({DD: 1, CC: 1}, 0),
                ({AB: 1, BA: 1}, 2), ({AB: 12, BA: 12}, 2), ({AB: 12, BA: 11}, 1), ({AB: 12, BA: 10}, 0),
                ({TURN: 24}, 2), ({AB: 1, TURN: 1}, 2), ({AB: 1, ("a", "b", False): 1}, 1)]
        for carts, number in told:
            self.assertEqual(ways(Heap(carts)), number)
        # At one kind, carts can stand in any order.
        self.assertEqual(ways(Heap({DD: 4, ("d", "d", True): 5})), math.comb(9, 4))

    def test_all_rows_of_few_carts(self):
        self.assertGreater(len(FEW), 150)
        numbers = set()
        for heap in FEW:
            rows = whole_rows(heap)
            numbers.add(len(rows))
            self.assertEqual(ways(heap), len(rows))
            pairs = [(begin_of(row[0]), end_of(row[-1])) for row in rows]
            for first in "abcd":
                for last in "abcd":
                    self.assertEqual(ways_led(heap, first, last), pairs.count((first, last)))
            firsts = [first for first, _ in pairs]
            self.assertEqual(list(begins(heap).items()), [(kind, firsts.count(kind)) for kind in sorted(set(firsts))])
            turned = [turned_in_row(heap, row) for row in rows]
            for turning in all_turnings(heap):
                self.assertEqual(ways_by(heap, turning), turned.count(turning))
        self.assertGreater(len(numbers), 15)

    def test_turnings_told(self):
        for heap in FEW:
            turned = [turned_in_row(heap, row) for row in whole_rows(heap)]
            told = [(turning, turned.count(turning)) for turning in all_turnings(heap) if turning in turned]
            self.assertEqual(turnings_told(heap), sorted(told, key=lambda pair: list(pair[0].values())))
            for turning, _ in turnings_told(heap):
                self.assertEqual(list(turning), sorted(turning))
                self.assertIs(is_turning(heap, turning), True)
            self.assertFalse(has_twice(turnings_told(heap)))
        self.assertEqual(turnings_told(Heap({AB: 1, BA: 1})), [({}, 2)])
        self.assertEqual(turnings_told(Heap({AB: 2})), [])
        self.assertEqual(turnings_told(Heap({TURN: 3})), [({TURN: 1}, 1), ({TURN: 2}, 1)])

    def test_rows_that_begin_with_a_row(self):
        for heap in FEW[:120]:
            rows = whole_rows(heap)
            for row in rows[:10]:
                for many in range(1, len(row) + 1):
                    number = sum(other[:many] == row[:many] for other in rows)
                    self.assertEqual(ways_beginning(heap, row[:many]), number)
                self.assertEqual(ways_beginning(heap, [*row, (cart_of(end_of(row[-1]), "zz"), False)]), 0)
            for cart in heap:
                number = sum(other[:1] == [(cart, False)] for other in rows)
                self.assertEqual(ways_beginning(heap, [(cart, False)]), number)

    def test_rows_of_other_carts(self):
        for row in [[(BA, False)], [(DD, False)], [(AB, False), (BA, False)], [(BC, False), (BC, True)],
                    [(TURN, False), (TURN, True)], [(cart_of("zz", "zz"), False)], [(CC, False)] * 900]:
            self.assertEqual(ways_beginning(HEAP, row), 0)
        self.assertEqual(ways_led(HEAP, "zz", "zz"), 0)
        self.assertEqual(ways_led(HEAP, "b", "zz"), 0)
        self.assertEqual(ways_led(HEAP, "b", "c"), 1)

    def test_full_heaps(self):
        for heap in FULL:
            number = plain_ways(heap)
            self.assertEqual(ways(heap), number)
            self.assertEqual(sum(begins(heap).values()), number)
            self.assertEqual(sum(many for _, many in turnings_told(heap)), number)
            kinds = heap.kinds()
            self.assertEqual(sum(ways_led(heap, first, last) for first in kinds for last in kinds), number)
            for first, many in begins(heap).items():
                self.assertEqual(sum(ways_led(heap, first, last) for last in kinds), many)
                self.assertGreater(many, 0)
            for turning, many in turnings_told(heap):
                self.assertEqual(ways_by(heap, turning), many)
                self.assertLessEqual(sum(abs(balance) for balance in balances(heap, turning).values()), 2)
        self.assertGreater(max(ways(heap) for heap in FULL), 10 ** 5)

    def test_numbers_somewhat_beyond(self):
        self.assertEqual(ways(Heap({DD: 300})), 1)
        self.assertEqual(ways(Heap({AB: 300, BA: 300})), 2)
        self.assertEqual(ways(Heap({AB: 300, BA: 300, CC: 1})), 0)

    def test_kinds_exchanged(self):
        for heap in [*FEW[:100], *FULL]:
            renamed = heap.renamed(NAMES)
            self.assertEqual(ways(renamed), ways(heap))
            self.assertEqual(begins(renamed), {NAMES[kind]: number for kind, number in begins(heap).items()})

    def test_front_and_back_exchanged(self):
        for heap in [*FEW[:100], *FULL]:
            for first in heap.kinds():
                for last in heap.kinds():
                    self.assertEqual(ways_led(heap.about(), first, last), ways_led(heap, last, first))

    def test_results_are_new(self):
        heap = Heap({TURN: 3})
        begins(heap).clear()
        told = turnings_told(heap)
        told[0][0].clear()
        told.clear()
        self.assertEqual([begins(heap), turnings_told(heap)], [{"a": 1, "b": 1}, [({TURN: 1}, 1), ({TURN: 2}, 1)]])

    def test_nothing_is_changed(self):
        turning, row = {BC: 1, TURN: 1}, [(BC, True), (TURN, True)]
        for _ in range(2):
            self.assertEqual([ways_by(HEAP, turning), ways_beginning(HEAP, row)], [1, 1])
            self.assertEqual([list(turning.items()), row], [[(BC, 1), (TURN, 1)], [(BC, True), (TURN, True)]])
            self.assertEqual(HEAP.carts(), {AB: 1, TURN: 1, BC: 1})

    def test_the_example_of_the_document(self):
        bc = cart_of("b", "c", turns=True)
        three = Heap({bc: 3})
        told = [ways(three), ways_led(three, "b", "c"), begins(three), turnings_told(three)]
        self.assertEqual(told, [2, 1, {"b": 1, "c": 1}, [({("b", "c", True): 1}, 1), ({("b", "c", True): 2}, 1)]])
