import copy
import unittest

from hookcarts.carts import begin_of, cart_of, end_of
from hookcarts.errors import Loose
from hookcarts.heaps import Heap
from hookcarts.rounds import is_round, is_rounds, rounds
from hookcarts.turnings import best_turning, spread
from tests.things import GREAT, all_turnings, has_twice, some_heaps, strange_values

AB, BA, TURN = cart_of("a", "b"), cart_of("b", "a"), cart_of("a", "b", turns=True)
BC, CA, CC, DD = cart_of("b", "c", turns=True), cart_of("c", "a"), cart_of("c", "c", turns=True), cart_of("d", "d")
EMPTY = Heap({})
HEAP = Heap({AB: 3, CA: 1, TURN: 2, BC: 1, CC: GREAT})
TURNING = {TURN: 2, BC: 0}
ROUNDS = [(2, [(AB, False), (TURN, True)]), (1, [(CA, False), (AB, False), (BC, False)]), (GREAT, [(CC, False)])]
SMALL = [EMPTY, HEAP.out(CC, GREAT - 2), *some_heaps(120, ["a", "b", "c", "d"], 5, [1, 2, 3])]
LARGE = some_heaps(150, ["a", "b", "c", "d", "e"], 12, [2, GREAT, 2 * GREAT, 10 ** 15])


class RoundsTest(unittest.TestCase):
    def assert_rounds(self, heap, turning):
        before = [heap.carts(), dict(turning)]
        found = rounds(heap, turning)
        self.assertEqual([heap.carts(), turning], before)
        self.assertLessEqual(len(found), 1000)
        self.assertIs(type(found), list)
        numbers = {}
        for times, row in found:
            self.assertGreaterEqual(times, 1)
            self.assertIs(is_round(row), True)
            for step in row:
                numbers[step] = numbers.get(step, 0) + times
        told = {(cart, False): heap[cart] - turning.get(cart, 0) for cart in heap}
        told.update({(cart, True): number for cart, number in turning.items()})
        self.assertEqual(numbers, {step: number for step, number in told.items() if number > 0})
        self.assertIs(is_rounds(heap, turning, found), True)
        self.assertFalse(has_twice(found))
        self.assertEqual(rounds(Heap(heap.carts()), dict(turning)), found)

    def test_is_round(self):
        for row in [[(DD, False)], [(CC, False)], [(AB, False), (BA, False)], [(TURN, False), (TURN, True)],
                    [(TURN, True), (TURN, False)], [(AB, False), (BC, False), (CA, False)],
                    [(CA, False), (TURN, False), (BC, False)]]:
            before = list(row)
            self.assertIs(is_round(row), True)
            self.assertEqual(row, before)

    def test_no_rounds(self):
        ring = [(AB, False), (BA, False)]
        for row in [[(AB, False)], [(AB, False), (BC, False)], ring + ring, [(DD, False), (DD, False)], [], tuple(ring),
                    [(CA, False), (CC, False)], [(CC, False), (CA, False), (AB, False), (BC, False)],
                    [(AB, False), (BC, False), (BC, True), (BA, False)], [(AB, False), (CA, False)],
                    [(AB, False), (TURN, True), (TURN, False), (BA, False)], [(AB, 0), (BA, False)], [(1, ring)],
                    [(AB, False), (("b", "a", 0), False)], ring[0], [*ring, None]]:
            before = copy.deepcopy(row)
            with self.subTest(row=row):
                self.assertIs(is_round(row), False)
                self.assertEqual(row, before)

    def test_rounds(self):
        self.assert_rounds(HEAP, TURNING)
        self.assertEqual(rounds(EMPTY, {}), [])
        self.assertEqual(rounds(Heap({DD: GREAT}), {}), [(GREAT, [(DD, False)])])
        self.assert_rounds(Heap({CC: 3, DD: GREAT}), {})
        self.assert_rounds(Heap({AB: GREAT, BA: GREAT}), {})
        self.assert_rounds(Heap({TURN: 2 * GREAT}), {TURN: GREAT})
        self.assert_rounds(Heap({TURN: GREAT, AB: 7, BA: GREAT + 7}), {TURN: 0})
        self.assert_rounds(Heap({TURN: GREAT, AB: GREAT + 7, BA: 7}), {TURN: GREAT})

    def test_rounds_of_all_turnings(self):
        closed = 0
        for heap in SMALL:
            for turning in all_turnings(heap):
                if spread(heap, turning) == 0:
                    closed += 1
                    self.assert_rounds(heap, turning)
                else:
                    before = dict(turning)
                    with self.assertRaises(Loose):
                        rounds(heap, turning)
                    self.assertEqual(turning, before)
        self.assertGreater(closed, 30)

    def test_rounds_of_great_heaps(self):
        closed = 0
        for heap in LARGE:
            # Fixed carts that lead back make the balances 0.
            turning = best_turning(heap)
            more = Heap({cart_of(cart[1], cart[0]): heap[cart] for cart in heap if not cart[2]})
            whole = heap + more
            other = best_turning(whole)
            self.assertEqual(list(other), list(turning))
            if spread(whole, other) == 0:
                closed += 1
                self.assert_rounds(whole, other)
        self.assertGreater(closed, 50)

    def test_loose(self):
        for heap, turning in [(Heap({AB: 1}), {}), (Heap({AB: GREAT, BA: GREAT - 1}), {}), (Heap({TURN: 2}), {TURN: 0}),
                              (Heap({TURN: 2}), {TURN: 2}), (HEAP, {TURN: 1, BC: 0}), (HEAP, {TURN: 2, BC: 1}),
                              (Heap({AB: 1, CA: 1, CC: 5}), {})]:
            with self.assertRaises(Loose):
                rounds(heap, turning)

    def test_is_rounds(self):
        two, one, great = ROUNDS
        for thing in [ROUNDS, ROUNDS[::-1], [(1, two[1]), one, great, (1, two[1])], [two, one, (GREAT - 1, great[1]),
                      (1, [(CC, False)])], [two, (1, one[1][1:] + one[1][:1]), great],
                      [(1, two[1]), (1, two[1][::-1]), one, great]]:
            before = copy.deepcopy(thing)
            self.assertIs(is_rounds(HEAP, TURNING, thing), True)
            self.assertEqual(thing, before)
        self.assertIs(is_rounds(EMPTY, {}, []), True)
        # One round may stand in as many tuples as it likes.
        self.assertIs(is_rounds(Heap({DD: 1200}), {}, [(1, [(DD, False)])] * 1200), True)

    def test_other_rounds(self):
        two, one, great = ROUNDS
        for thing in [[], ROUNDS[1:], ROUNDS[:2], [*ROUNDS, one], [*ROUNDS, (1, [(DD, False)])], [(1, two[1]), one, great],
                      [(3, two[1]), one, great], [two, one, (GREAT + 1, great[1])], [(2, one[1]), one, great],
                      tuple(ROUNDS), [list(two), one, great], [(True, one[1]), two, great], [(2, tuple(two[1])), one, great],
                      [(0, two[1]), *ROUNDS], [two, (1, one[1][::-1]), great], [two, (1, [(1, one[1])]), great],
                      [(1, two[1] + two[1]), one, great], [(1, two[1] + one[1][1:] + one[1][:1]), two, great],
                      [two, (1, one[1][1:] + [(CC, False)] + one[1][:1]), (GREAT - 1, great[1])], [*ROUNDS, None],
                      [two, one, (1, [(CC, False)] * 2), (GREAT - 2, great[1])], [(1, *two), one, great], [two[1], one, great],
                      [(2, [(AB, False), (TURN, 1)]), one, great], [two, one, (GREAT, [(("c", "c", 1), False)])]]:
            before = copy.deepcopy(thing)
            with self.subTest(thing=repr(thing)[:120]):
                self.assertIs(is_rounds(HEAP, TURNING, thing), False)
                self.assertEqual(thing, before)

    def test_rounds_of_another_turning(self):
        ring = [(1, [(AB, False), (BA, False)]), (1, [(TURN, False), (TURN, True)])]
        heap = Heap({AB: 1, BA: 1, TURN: 2})
        self.assertIs(is_rounds(heap, {TURN: 1}, ring), True)
        self.assertIs(is_rounds(heap, {TURN: 0}, ring), False)
        self.assertIs(is_rounds(heap, {TURN: 2}, ring), False)
        self.assertIs(is_rounds(Heap({AB: 2, BA: 2, TURN: 1}), {TURN: 1}, [(2, [(AB, False), (BA, False)])]), False)
        self.assertIs(is_rounds(Heap({AB: 1}), {}, []), False)
        self.assertIs(is_rounds(Heap({TURN: GREAT}), {TURN: 0}, [(GREAT, [(TURN, False)])]), False)

    def test_any_values(self):
        for thing in strange_values():
            with self.subTest(thing=repr(thing)[:60]):
                self.assertIs(is_round(thing), False)
                self.assertIs(is_round([thing]), False)
                self.assertIs(is_rounds(HEAP, TURNING, thing), False)
                self.assertIs(is_rounds(EMPTY, {}, thing), False)
                self.assertIs(is_rounds(EMPTY, {}, [thing]), False)
                self.assertIs(is_rounds(HEAP, TURNING, [*ROUNDS, thing]), False)
                self.assertIs(is_rounds(HEAP, TURNING, [(thing, ROUNDS[0][1]), *ROUNDS[1:]]), False)
                self.assertIs(is_rounds(HEAP, TURNING, [*ROUNDS, (1, thing)]), False)

    def test_kinds_exchanged(self):
        names = {"a": "c", "b": "a", "c": "b"}
        cb = cart_of("c", "b")
        heap = Heap({AB: GREAT + 1, BA: 1, cart_of("b", "c"): GREAT + 5, cb: 5, CA: GREAT, CC: 1})
        self.assertEqual(spread(heap, {}), 0)
        told = [(times, [((names[begin_of(step)], names[end_of(step)], step[0][2]), False) for step in row])
                for times, row in rounds(heap, {})]
        self.assertIs(is_rounds(heap.renamed(names), {}, told), True)
