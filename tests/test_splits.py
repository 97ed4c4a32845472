import copy
import unittest

from hookcarts.carts import cart_of
from hookcarts.heaps import Heap
from hookcarts.splits import heap_in, how_many, is_split, split_ends, turned_in
from hookcarts.trains import trains
from tests.things import GREAT, has_twice, long_row, some_heaps, strange_values

AB, BA, TURN = cart_of("a", "b"), cart_of("b", "a"), cart_of("a", "b", turns=True)
BC, CC, DD = cart_of("b", "c", turns=True), cart_of("c", "c", turns=True), cart_of("d", "d")
EMPTY = Heap({})
HEAP = Heap({AB: 3, TURN: 2, BC: 2, CC: 2 * GREAT})
SPLIT = [
    (1, [(1, [(AB, False), (TURN, True), (AB, False)])]),
    (2, [(1, [(BC, False)]), (GREAT, [(CC, False)])]),
    (1, [(1, [(AB, False)]), (1, [(TURN, True)])]),
]
HEAPS = some_heaps(80, ["a", "b", "c", "d", "e"], 12, [1, 2, 3, GREAT, GREAT - 1])


class SplitsTest(unittest.TestCase):
    def test_is_split(self):
        for thing in [SPLIT, SPLIT[::-1], [*SPLIT[1:], SPLIT[0]], [*SPLIT[::2], (1, SPLIT[1][1]), (1, SPLIT[1][1])]]:
            before = copy.deepcopy(thing)
            self.assertIs(is_split(HEAP, thing), True)
            self.assertEqual(thing, before)
        self.assertIs(is_split(EMPTY, []), True)
        self.assertIs(is_split(Heap({AB: GREAT}), [(GREAT, [(1, [(AB, False)])])]), True)
        self.assertIs(is_split(Heap({AB: 1}), [(1, [(1, [(AB, False)])])]), True)

    def test_heaps_split(self):
        for heap in HEAPS:
            split = trains(heap)
            self.assertIs(is_split(heap, split), True)
            self.assertIs(is_split(heap.put(AB), split), False)
            self.assertIs(is_split(heap.put(DD), split), False)
            for cart in heap:
                self.assertIs(is_split(heap.out(cart), split), False)

    def test_other_numbers(self):
        one, two, three = SPLIT
        for thing in [[], [one], [one, two], [one, three], [two, three], [*SPLIT, one], [*SPLIT, (1, [(1, [(DD, False)])])],
                      [one, (1, two[1]), three], [one, (3, two[1]), three], [(2, one[1]), two, three]]:
            self.assertIs(is_split(HEAP, thing), False)
        for number in [GREAT - 1, GREAT + 1, 1]:
            self.assertIs(is_split(HEAP, [one, (2, [two[1][0], (number, [(CC, False)])]), three]), False)
            self.assertIs(is_split(Heap({AB: GREAT}), [(number, [(1, [(AB, False)])])]), False)
        self.assertIs(is_split(EMPTY, SPLIT), False)
        self.assertIs(is_split(HEAP, trains(EMPTY)), False)

    def test_a_step_a_part_or_a_tuple_otherwise(self):
        one, two, three = SPLIT
        row = [(AB, False), (TURN, True), (AB, False)]
        for thing in [
            tuple(SPLIT), [list(one), two, three], [(1, *one), two, three], [one[:1], two, three], [one[1], two, three],
            [(True, one[1]), two, three], [(0, one[1]), *SPLIT], [(-1, one[1]), one, *SPLIT], [one, two, (1, [])],
            [("1", one[1]), two, three], [(None, one[1]), two, three], [(1, (1, row)), two, three],
            [(1, [(True, row)]), two, three], [(1, [[1, row]]), two, three], [(1, [(1, tuple(row))]), two, three],
            [(1, [(1, [(AB, 0), *row[1:]])]), two, three], [(1, [(1, [(AB, True), *row[1:]])]), two, three],
            [(1, [(1, [(TURN, False), *row[1:]])]), two, three], [(1, [(1, row[:2]), (1, row[:1] + row[2:])]), two, three],
            [(1, [(1, row), (1, [])]), two, three], [(1, [(3, [(AB, False)]), (1, [(TURN, True)])]), two, three],
            [(1, [(1, [(("a", "b", 0), False), *row[1:]])]), two, three], [(1, row), two, three], [*SPLIT, None],
            [one, (2, [(1, [(BC, False)]), (GREAT, [(("c", "c", 1), False)])]), three],
            [one, (2, [(GREAT, [(CC, False)]), (1, [(BC, False)])]), three],
        ]:
            before = copy.deepcopy(thing)
            with self.subTest(thing=repr(thing)[:120]):
                self.assertIs(is_split(HEAP, thing), False)
                self.assertEqual(thing, before)

    def test_any_values(self):
        for thing in strange_values():
            with self.subTest(thing=repr(thing)[:60]):
                self.assertIs(is_split(HEAP, thing), False)
                self.assertIs(is_split(HEAP, [thing, *SPLIT]), False)
                self.assertIs(is_split(HEAP, [*SPLIT, (1, thing)]), False)
                self.assertIs(is_split(HEAP, [*SPLIT, (thing, SPLIT[0][1])]), False)
                self.assertIs(is_split(HEAP, [*SPLIT, (1, [(1, thing)])]), False)
                self.assertIs(is_split(EMPTY, thing), False)
                self.assertIs(is_split(EMPTY, [thing]), False)
        self.assertIs(is_split(HEAP, HEAP), False)
        self.assertIs(is_split(EMPTY, EMPTY), False)
        self.assertIs(is_split(EMPTY, ()), False)
        self.assertIs(is_split(EMPTY, {}), False)

    def test_heap_in(self):
        self.assertEqual(heap_in(SPLIT), HEAP)
        self.assertEqual(heap_in([]), EMPTY)
        self.assertEqual(heap_in([(GREAT, [(GREAT, [(CC, False), (CC, False)])])]), Heap({CC: 2 * GREAT * GREAT}))
        self.assertEqual(heap_in([*SPLIT, *SPLIT, SPLIT[0]]), 2 * HEAP + Heap({AB: 2, TURN: 1}))
        for one, other in zip(HEAPS, HEAPS[1:]):
            self.assertEqual(heap_in([*trains(one), *trains(other)]), one + other)

    def test_how_many(self):
        self.assertEqual(how_many(SPLIT), 4)
        self.assertEqual(how_many([]), 0)
        self.assertEqual(how_many([*SPLIT, (GREAT, SPLIT[0][1])]), GREAT + 4)

    def test_split_ends(self):
        self.assertEqual(split_ends(SPLIT), [("a", "a", 1), ("a", "b", 1), ("b", "c", 2)])
        self.assertEqual(split_ends([]), [])
        split = [(GREAT, [(1, [(BC, True)])]), (2, [(1, [(BC, False)])]), (1, [(1, [(BC, True), (BA, False)])]),
                 (3, [(7, [(AB, False), (BA, False)])]), (1, [(1, [(BC, True)]), (1, [(AB, False)])][:1]),
                 (4, [(GREAT, [(DD, False)])])]
        told = [("a", "a", 3), ("b", "c", 2), ("c", "a", 1), ("c", "b", GREAT + 1), ("d", "d", 4)]
        self.assertEqual(split_ends(split), told)
        self.assertEqual(split_ends(split[::-1]), told)

    def test_turned_in(self):
        self.assertEqual(turned_in(SPLIT), {TURN: 2, BC: 0})
        self.assertEqual(turned_in([]), {})
        self.assertEqual(turned_in([(1, [(5, [(CC, False)])]), (1, [(1, [(AB, False)])])]), {})
        split = [(3, [(GREAT, [(BC, True), (BC, False), (CC, False)])]), (2, [(1, [(BC, True), (TURN, True)])])]
        self.assertEqual(turned_in(split), {TURN: 2, BC: 3 * GREAT + 2})
        self.assertEqual(list(turned_in(split)), [TURN, BC])
        self.assertEqual(turned_in([(2, [(1, [(TURN, False), (TURN, True), (TURN, False)])])]), {TURN: 2})
        for heap in HEAPS:
            turned = turned_in(trains(heap))
            self.assertEqual(list(turned), [cart for cart in heap if cart[2] and cart[0] != cart[1]])

    def test_short_trains_counted_step_by_step(self):
        for heap in some_heaps(60, ["a", "b", "c"], 5, [1, 2, 3]):
            split = trains(heap)
            steps = [step for times, train in split for _ in range(times) for step in long_row(train)]
            self.assertEqual(heap_in(split).carts(), {cart: [one for one, _ in steps].count(cart) for cart in heap})
            told = {cart: steps.count((cart, True)) for cart in heap if cart[2] and cart[0] != cart[1]}
            self.assertEqual(turned_in(split), told)
            self.assertEqual(sum(number for _, _, number in split_ends(split)), how_many(split))

    def test_arguments_stay_as_they_are(self):
        split = copy.deepcopy(SPLIT)
        for function in [heap_in, how_many, split_ends, turned_in]:
            result = function(split)
            self.assertEqual(split, SPLIT)
            if function in (split_ends, turned_in):
                result.clear()
                self.assertNotEqual(function(split), result)
                self.assertFalse(has_twice(function(split)))
