import copy
import unittest

from hookcarts.carts import cart_of
from hookcarts.heaps import Heap
from hookcarts.strains import greatest
from hookcarts.turnings import balances, best_turning, is_turning, spread
from tests.things import GREAT, all_turnings, some_heaps, strange_values

AB, BA, TURN = cart_of("a", "b"), cart_of("b", "a"), cart_of("a", "b", turns=True)
BC, CC = cart_of("b", "c", turns=True), cart_of("c", "c", turns=True)
HEAP = Heap({AB: 3, TURN: 2, BC: GREAT, CC: 5})
EMPTY = Heap({})
STILL = Heap({AB: 3, CC: 5})
SMALL = [EMPTY, STILL, *some_heaps(120, ["a", "b", "c", "d"], 5, [1, 2, 3])]
LARGE = some_heaps(200, ["a", "b", "c", "d", "e"], 12, [1, 2, 3, GREAT, GREAT - 1, GREAT - 7, GREAT // 3, 10 ** 15])
TREES = some_heaps(200, ["a", "b", "c", "d", "e"], 7, [1, 2, 5, GREAT])


def balances_told(heap, turning):
    """Return the balances, as the document tells what they are."""
    found = {}
    for kind in heap.kinds():
        leaving = sum(heap[cart] - turning.get(cart, 0) for cart in heap if cart[0] == kind != cart[1])
        leaving += sum(turning.get(cart, 0) for cart in heap if cart[1] == kind != cart[0])
        coming = sum(heap[cart] - turning.get(cart, 0) for cart in heap if cart[1] == kind != cart[0])
        coming += sum(turning.get(cart, 0) for cart in heap if cart[0] == kind != cart[1])
        found[kind] = leaving - coming
    return found


class TurningsTest(unittest.TestCase):
    def test_turnings(self):
        for turning in [{TURN: 0, BC: 0}, {BC: GREAT, TURN: 2}, {TURN: 1, BC: GREAT - 1}]:
            before = list(turning.items())
            self.assertIs(is_turning(HEAP, turning), True)
            self.assertEqual(list(turning.items()), before)
        self.assertIs(is_turning(EMPTY, {}), True)
        self.assertIs(is_turning(STILL, {}), True)

    def test_no_turnings(self):
        right = {TURN: 0, BC: 1}
        for thing in [{}, {TURN: 0}, {BC: 1}, {**right, AB: 0}, {**right, CC: 0}, {**right, BA: 0}, {**right, None: 0},
                      {**right, ("a", "c", True): 0}, {TURN: 3, BC: 1}, {TURN: -1, BC: 1}, {TURN: 0, BC: GREAT + 1},
                      {TURN: True, BC: 1}, {TURN: False, BC: 1}, {TURN: "0", BC: 1}, {TURN: None, BC: 1},
                      {TURN: 0, BC: (1,)}, {TURN: 0, AB: 0}, {TURN: 0, CC: 0}, {TURN: 0, "bc": 1},
                      {("a", "b", 1): 0, BC: 1}, {TURN: 0, ("b", "c", 1): 1}, {TURN: 0, ("c", "b", True): 1},
                      [TURN, BC], [(TURN, 0), (BC, 1)], (TURN, BC), {TURN, BC}, list(right), None, 0, "", HEAP, EMPTY]:
            before = copy.deepcopy(thing)
            with self.subTest(thing=repr(thing)[:80]):
                self.assertIs(is_turning(HEAP, thing), False)
                self.assertEqual(thing, before)

    def test_any_values(self):
        for thing in strange_values():
            with self.subTest(thing=repr(thing)[:60]):
                self.assertIs(is_turning(HEAP, thing), False)
                self.assertIs(is_turning(Heap({TURN: 1}), {TURN: thing}), False)
                self.assertIs(is_turning(EMPTY, thing), False)
        self.assertIs(is_turning(EMPTY, {TURN: 0}), False)
        self.assertIs(is_turning(STILL, {CC: 0}), False)

    def test_balances(self):
        self.assertEqual(balances(HEAP, {TURN: 0, BC: 0}), {"a": 5, "b": GREAT - 5, "c": -GREAT})
        self.assertEqual(balances(HEAP, {TURN: 2, BC: GREAT}), {"a": 1, "b": -GREAT - 1, "c": GREAT})
        self.assertEqual(balances(HEAP, {BC: 1, TURN: 1}), {"a": 3, "b": GREAT - 5, "c": 2 - GREAT})
        self.assertEqual(list(balances(Heap({("d", "b", False): 1, ("c", "a", False): 1}), {})), ["a", "b", "c", "d"])
        self.assertEqual(balances(Heap({CC: 4, ("a", "a", False): 3}), {}), {"a": 0, "c": 0})
        self.assertEqual(balances(EMPTY, {}), {})

    def test_balances_of_all_turnings(self):
        for heap in SMALL:
            for turning in all_turnings(heap):
                before = dict(turning)
                self.assertIs(is_turning(heap, turning), True)
                told = balances(heap, turning)
                self.assertEqual(told, balances_told(heap, turning))
                self.assertEqual(list(told), heap.kinds())
                self.assertEqual(spread(heap, turning), sum(abs(balance) for balance in told.values()))
                self.assertEqual(turning, before)

    def test_spread(self):
        self.assertEqual(spread(HEAP, {TURN: 0, BC: 0}), 2 * GREAT)
        self.assertEqual(spread(HEAP, {TURN: 2, BC: GREAT // 2}), 2)
        self.assertEqual(spread(EMPTY, {}), 0)
        self.assertEqual(spread(Heap({AB: GREAT, BA: GREAT}), {}), 0)

    def test_dicts_are_new(self):
        balances(HEAP, {TURN: 0, BC: 0}).clear()
        best_turning(HEAP).clear()
        self.assertEqual(len(balances(HEAP, {TURN: 0, BC: 0})), 3)
        self.assertEqual(len(best_turning(HEAP)), 2)

    def test_best_turnings_of_small_heaps(self):
        for heap in SMALL:
            best = best_turning(heap)
            self.assertIs(is_turning(heap, best), True)
            self.assertEqual(list(best), sorted(best))
            self.assertEqual(spread(heap, best), min(spread(heap, turning) for turning in all_turnings(heap)))

    def test_best_turnings_of_great_heaps(self):
        for heap in [*LARGE, *TREES]:
            best = best_turning(heap)
            self.assertIs(is_turning(heap, best), True)
            self.assertEqual(list(best), sorted(best))
            self.assertEqual(spread(heap, best), greatest(heap))

    def test_best_turnings_with_odd_kinds_on_the_way(self):
        # Great balances that can only be brought to kinds with 1 or -1.
        for number in [1, 2, 3, GREAT, GREAT + 1]:
            for turned in [False, True]:
                one, other = ("a", "b") if turned else ("b", "a")
                heap = Heap({(one, other, False): number, ("b", "c", True): 1, ("b", "d", True): 1,
                             ("d", "e", True): 1, ("a", "e", True): 2})
                best = best_turning(heap)
                self.assertEqual(spread(heap, best), min(spread(heap, turning) for turning in all_turnings(heap)))

    def test_best_turnings_of_all_that_turn(self):
        self.assertEqual(best_turning(Heap({TURN: GREAT})), {TURN: GREAT // 2})
        self.assertIn(best_turning(Heap({TURN: GREAT + 1})), [{TURN: GREAT // 2}, {TURN: GREAT // 2 + 1}])
        self.assertEqual(best_turning(Heap({TURN: GREAT, AB: 10})), {TURN: GREAT // 2 + 5})
        self.assertEqual(best_turning(Heap({TURN: 7, BA: GREAT})), {TURN: 0})
        self.assertEqual(best_turning(EMPTY), {})
        self.assertEqual(best_turning(STILL), {})

    def test_equal_heaps_have_equal_best_turnings(self):
        for heap in [*SMALL, *LARGE[:20]]:
            other = Heap(dict(reversed(list(heap.carts().items()))))
            self.assertEqual(best_turning(other), best_turning(heap))

    def test_kinds_exchanged(self):
        # The order of the kinds is kept, so that all carts keep their front.
        names = {"a": "b", "b": "c", "c": "dd", "d": "e", "e": "xyz"}
        for heap in SMALL[:40]:
            for turning in all_turnings(heap):
                told = {(names[cart[0]], names[cart[1]], cart[2]): number for cart, number in turning.items()}
                renamed = {names[kind]: balance for kind, balance in balances(heap, turning).items()}
                self.assertEqual(balances(heap.renamed(names), told), renamed)
                self.assertEqual(spread(heap.renamed(names), told), spread(heap, turning))

    def test_the_example_of_the_document(self):
        mixed = Heap({("a", "b", False): 3, ("a", "b", True): 1, ("c", "c", True): 7})
        told = [best_turning(mixed), balances(mixed, {("a", "b", True): 1})]
        self.assertEqual(told, [{("a", "b", True): 1}, {"a": 2, "b": -2, "c": 0}])
