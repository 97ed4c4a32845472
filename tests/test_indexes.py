import inspect
import itertools
import unittest

from hookcarts.carts import cart_of
from hookcarts.errors import NoPlace
from hookcarts.heaps import Heap
from hookcarts.indexes import next_row, nth, place_of, rows_of
from hookcarts.rows import carts_in, is_row
from hookcarts.ways import ways, ways_beginning
from tests.things import plain_ways, some_heaps, strange_values, whole_rows

AB, BA, TURN = cart_of("a", "b"), cart_of("b", "a"), cart_of("a", "b", turns=True)
BC, CC, DD = cart_of("b", "c", turns=True), cart_of("c", "c", turns=True), cart_of("d", "d")
EMPTY = Heap({})
THREE = Heap({BC: 3})
FEW = [heap for heap in [THREE, *some_heaps(150, ["a", "b", "c"], 4, [1, 2]), *some_heaps(80, ["a", "b"], 4, [1, 2, 3])]
       if heap.count() < 8]
FULL = [Heap({TURN: 7, BC: 7, cart_of("a", "c", turns=True): 8}), Heap({AB: 5, BA: 5, TURN: 4, ("a", "a", False): 2}),
        Heap({DD: 11, ("d", "d", True): 12}), Heap({AB: 2, BA: 2, TURN: 3, CC: 3, BC: 3}),
        Heap({cart: 1 for cart in [AB, BA, TURN, BC, CC, DD, ("c", "d", True), ("d", "c", False), ("a", "c", True)]})]


class IndexesTest(unittest.TestCase):
    def assert_no_place(self, heap, thing):
        with self.assertRaises(NoPlace) as caught:
            nth(heap, thing)
        self.assertIs(caught.exception.index, thing)

    def test_all_rows_of_few_carts(self):
        self.assertGreater(len(FEW), 100)
        longest = 0
        for heap in FEW:
            rows = sorted(whole_rows(heap))
            longest = max(longest, len(rows))
            self.assertEqual(list(rows_of(heap)), rows)
            for index, row in enumerate(rows):
                before = list(row)
                self.assertEqual(nth(heap, index), row)
                self.assertEqual(place_of(heap, row), index)
                self.assertEqual(next_row(heap, row), rows[index + 1] if index + 1 < len(rows) else None)
                self.assertEqual(row, before)
            for index in [-1, -2, len(rows), len(rows) + 1, 10 ** 30, -10 ** 30]:
                self.assert_no_place(heap, index)
        self.assertGreater(longest, 15)

    def test_no_carts(self):
        self.assertEqual(list(rows_of(EMPTY)), [])
        self.assertIsNone(place_of(EMPTY, []))
        self.assertIsNone(place_of(EMPTY, [(AB, False)]))
        for index in [0, 1, -1, None, False]:
            self.assert_no_place(EMPTY, index)

    def test_no_rows(self):
        for heap in [Heap({AB: 2}), Heap({AB: 1, DD: 1}), Heap({AB: 12, BA: 9})]:
            self.assertEqual(list(rows_of(heap)), [])
            self.assert_no_place(heap, 0)

    def test_no_place(self):
        for thing in [True, False, None, "0", b"0", [0], (0,), {0: 0}, {0}, Heap({}), *strange_values()]:
            self.assert_no_place(THREE, thing)
            self.assert_no_place(EMPTY, thing)

    def test_what_is_no_whole_row(self):
        row = nth(THREE, 1)
        for thing in [row[:2], row[1:], [*row, (BC, False)], [*row, (CC, False)], tuple(row), [row], [], row[0], {0: row},
                      [*row[:2], (BC, False)], [*row[:2], (BC, 1)], [(("b", "c", 1), True), *row[1:]],
                      [*row[:2], None], [list(step) for step in row], [(CC, False)] * 3, [(BC, True)] * 3,
                      [row[0], row[1], (cart_of("c", "b"), False)], THREE, "b-c c-b b-c"]:
            self.assertIsNone(place_of(THREE, thing), repr(thing))
        for thing in strange_values():
            self.assertIsNone(place_of(THREE, thing))
            self.assertIsNone(place_of(THREE, [thing] * 3))
            self.assertIsNone(place_of(THREE, [*row[:2], thing]))
        self.assertEqual(place_of(THREE, row), 1)

    def test_full_heaps(self):
        for heap in FULL:
            number = ways(heap)
            self.assertEqual(number, plain_ways(heap))
            ahead = None
            for index in sorted({0, 1, 2, number // 7, number // 3, number // 2, number - 2, number - 1}):
                row = nth(heap, index)
                self.assertIs(is_row(row), True)
                self.assertEqual(carts_in(row), heap.carts())
                self.assertEqual(place_of(heap, row), index)
                self.assertTrue(ahead is None or ahead < row)
                following = next_row(heap, row)
                self.assertEqual(following, nth(heap, index + 1) if index + 1 < number else None)
                ahead = row
            for index in [number, number + 1, -1]:
                self.assert_no_place(heap, index)
            first = list(itertools.islice(rows_of(heap), 40))
            self.assertEqual(first, [nth(heap, index) for index in range(40)])
        self.assertGreater(max(ways(heap) for heap in FULL), 10 ** 5)

    def test_all_rows_of_a_full_heap(self):
        heap = FULL[1]
        rows = list(rows_of(heap))
        self.assertEqual(len(rows), plain_ways(heap))
        self.assertTrue(all(row < other for row, other in zip(rows, rows[1:])))
        self.assertTrue(all(is_row(row) and carts_in(row) == heap.carts() for row in rows[::97]))

    def test_places_told_by_ways(self):
        # A row stands behind all rows that begin as it does and go on with a lesser step.
        heap = FULL[3]
        row = nth(heap, ways(heap) // 2)
        steps = sorted({step for other in itertools.islice(rows_of(heap), 500) for step in other} | set(row))
        place = 0
        for index, step in enumerate(row):
            lesser = [[*row[:index], other] for other in steps if other < step]
            place += sum(ways_beginning(heap, one) for one in lesser if is_row(one))
        self.assertEqual(place_of(heap, row), place)

    def test_a_generator_of_new_rows(self):
        rows = rows_of(FULL[0])
        self.assertTrue(inspect.isgenerator(rows))
        told = nth(FULL[0], 1)
        first = next(rows)
        first.clear()
        second = next(rows)
        self.assertEqual(second, told)
        second.reverse()
        second.append(None)
        self.assertEqual(next(rows), nth(FULL[0], 2))
        self.assertEqual(list(itertools.islice(rows_of(FULL[0]), 3))[1:], [told, nth(FULL[0], 2)])

    def test_two_generators_at_once(self):
        pairs = list(zip(rows_of(THREE), rows_of(THREE)))
        self.assertEqual(len(pairs), 2)
        for one, other in pairs:
            self.assertEqual(one, other)
            self.assertIsNot(one, other)

    def test_the_example_of_the_document(self):
        three = Heap({cart_of("b", "c", turns=True): 3})
        self.assertEqual([[step[1] for step in row] for row in rows_of(three)], [[False, True, False], [True, False, True]])
        self.assertEqual(place_of(three, nth(three, 1)), 1)
