import copy
import unittest

from hookcarts.carts import begin_of, cart_of, end_of
from hookcarts.fewest import fewest
from hookcarts.heaps import Heap
from hookcarts.longtrains import carts_of, is_train, length, train_about, train_ends
from hookcarts.splits import heap_in, how_many, is_split, split_ends, turned_in
from hookcarts.strains import greatest
from hookcarts.trains import led, one_train, ring, trains, trains_by
from hookcarts.turnings import best_turning, is_turning, spread
from tests.things import GREAT, all_turnings, has_twice, plain_fewest, some_heaps, whole_rows

AB, BA, TURN = cart_of("a", "b"), cart_of("b", "a"), cart_of("a", "b", turns=True)
BC, CC, DD = cart_of("b", "c", turns=True), cart_of("c", "c", turns=True), cart_of("d", "d")
EMPTY = Heap({})
SMALL = [EMPTY, *some_heaps(150, ["a", "b", "c", "d"], 5, [1, 2, 3])]
FEW = [heap for heap in some_heaps(400, ["a", "b", "c"], 4, [1, 2]) if heap.count() < 7]
LARGE = some_heaps(200, ["a", "b", "c", "d", "e"], 12, [1, 2, GREAT, GREAT - 1, GREAT - 7, GREAT // 3, 10 ** 15])
KINDS = ["a", "b", "c", "d", "e"]
# More different carts than callers pass.
FULL = Heap({cart_of(one, other, turns=one < other): GREAT + 7 * index
             for index, one in enumerate(KINDS) for other in KINDS})


def steps_fixed(heap, turning):
    """Return the Heap of fixed carts that lead as the carts of a heap do that stand as a turning tells."""
    found = EMPTY
    for cart in heap:
        turned = turning.get(cart, 0)
        for number, step in [(heap[cart] - turned, (cart, False)), (turned, (cart, True))]:
            if number:
                found = found.put(cart_of(begin_of(step), end_of(step)), number)
    return found


class TrainsTest(unittest.TestCase):
    def assert_split(self, heap, split, number):
        self.assertIs(is_split(heap, split), True)
        self.assertEqual(how_many(split), number)
        self.assertLessEqual(len(split), 1000)
        self.assertLessEqual(max([len(train) for _, train in split], default=0), 1000)
        self.assertFalse(has_twice(split))

    def assert_train(self, heap, train):
        self.assertIs(is_train(train), True)
        self.assertEqual(carts_of(train), heap.carts())
        self.assertFalse(has_twice(train))

    def test_trains(self):
        self.assertEqual(trains(EMPTY), [])
        self.assertEqual(trains(Heap({AB: GREAT})), [(GREAT, [(1, [(AB, False)])])])
        self.assert_split(Heap({DD: GREAT}), trains(Heap({DD: GREAT})), 1)
        self.assert_split(Heap({CC: 1, DD: GREAT}), trains(Heap({CC: 1, DD: GREAT})), 2)
        self.assert_split(Heap({AB: GREAT, CC: 5}), trains(Heap({AB: GREAT, CC: 5})), GREAT + 1)
        self.assert_split(Heap({AB: 5, TURN: 2}), trains(Heap({AB: 5, TURN: 2})), 3)

    def test_trains_of_some_heaps(self):
        for heap in [*SMALL, *LARGE, FULL]:
            before = heap.carts()
            self.assert_split(heap, trains(heap), fewest(heap))
            self.assertEqual(heap.carts(), before)
            self.assertEqual(trains(Heap(dict(reversed(list(before.items()))))), trains(heap))

    def test_trains_coupled_one_by_one(self):
        for heap in SMALL:
            self.assert_split(heap, trains(heap), plain_fewest(heap))

    def test_trains_by(self):
        self.assertEqual(trains_by(EMPTY, {}), [])
        heap = Heap({AB: 5, TURN: 2, CC: 1})
        for turned, number in [(2, 4), (1, 6), (0, 8)]:
            self.assert_split(heap, trains_by(heap, {TURN: turned}), number)
        self.assert_split(Heap({TURN: GREAT}), trains_by(Heap({TURN: GREAT}), {TURN: 7}), GREAT - 14)

    def test_trains_by_all_turnings(self):
        for heap in SMALL:
            for turning in all_turnings(heap):
                before = dict(turning)
                split = trains_by(heap, turning)
                self.assertEqual(turning, before)
                self.assert_split(heap, split, plain_fewest(steps_fixed(heap, turning)))
                self.assertEqual(turned_in(split), turning)

    def test_trains_by_turnings_of_great_heaps(self):
        for heap in [*LARGE, FULL]:
            best = best_turning(heap)
            for part in [0, 1, 2, 3]:
                turning = {cart: min(best[cart] + part * GREAT // 5, heap[cart]) for cart in best}
                self.assertIs(is_turning(heap, turning), True)
                split = trains_by(heap, turning)
                number = sum(max(1, spread(lot, {cart: turning[cart] for cart in lot if cart in turning}) // 2)
                             for lot in heap.lots())
                self.assert_split(heap, split, number)
                self.assertEqual(turned_in(split), turning)
                if part == 0:
                    self.assertEqual(number, fewest(heap))

    def test_one_train(self):
        self.assertIsNone(one_train(EMPTY))
        self.assertIsNone(one_train(Heap({AB: 2})))
        self.assertIsNone(one_train(Heap({CC: 1, DD: 1})))
        self.assertEqual(one_train(Heap({AB: 1})), [(1, [(AB, False)])])
        self.assertEqual(length(one_train(Heap({DD: GREAT}))), GREAT)
        for heap in [*SMALL, *LARGE, FULL]:
            train = one_train(heap)
            self.assertEqual(train is not None, len(heap.lots()) == 1 and greatest(heap) <= 2)
            if train is not None:
                self.assert_train(heap, train)
                first, last = train_ends(train)
                self.assertEqual(sorted([first, last]) if first != last else [], heap.odd())

    def test_ring(self):
        self.assertIsNone(ring(EMPTY))
        self.assertIsNone(ring(Heap({AB: 1})))
        self.assertIsNone(ring(Heap({TURN: 3})))
        self.assertIsNone(ring(Heap({AB: 2})))
        self.assertIsNone(ring(Heap({CC: 1, DD: 1})))
        self.assertEqual(train_ends(ring(Heap({DD: GREAT}))), ("d", "d"))
        for heap in [*SMALL, *LARGE, FULL]:
            train = ring(heap)
            self.assertEqual(train is not None, len(heap.lots()) == 1 and greatest(heap) == 0)
            if train is not None:
                self.assert_train(heap, train)
                self.assertEqual(len(set(train_ends(train))), 1)

    def test_led(self):
        self.assertIsNone(led(EMPTY, "a", "a"))
        self.assertIsNone(led(EMPTY, "a", "b"))
        self.assertEqual(led(Heap({AB: 1}), "a", "b"), [(1, [(AB, False)])])
        for first, last in [("b", "a"), ("a", "a"), ("b", "b"), ("a", "c"), ("c", "b"), ("c", "c"), ("c", "d")]:
            self.assertIsNone(led(Heap({AB: 1}), first, last))
        for first, last in [("a", "b"), ("b", "a")]:
            self.assertEqual(train_ends(led(Heap({TURN: 2 * GREAT + 1, AB: GREAT, BA: GREAT}), first, last)), (first, last))
        self.assertIsNone(led(Heap({AB: 2}), "a", "b"))
        self.assertIsNone(led(Heap({CC: 1, DD: 1}), "c", "c"))
        self.assertIsNone(led(Heap({CC: 1, DD: 1}), "c", "d"))
        self.assertIsNone(led(Heap({AB: 1, cart_of("c", "d"): 1}), "a", "d"))
        self.assertIsNone(led(Heap({AB: 1, DD: 1}), "a", "b"))

    def test_rings_begin_at_each_of_their_kinds(self):
        heap = Heap({AB: 2, BC: 3, cart_of("c", "a"): 2, CC: GREAT, cart_of("c", "b"): 1})
        self.assertEqual(heap.odd(), [])
        for kind in "abc":
            train = led(heap, kind, kind)
            self.assert_train(heap, train)
            self.assertEqual(train_ends(train), (kind, kind))
        for first, last in [("a", "b"), ("c", "a"), ("d", "d")]:
            self.assertIsNone(led(heap, first, last))

    def test_all_ends_of_small_heaps(self):
        for heap in FEW:
            ends = {(begin_of(row[0]), end_of(row[-1])) for row in whole_rows(heap)}
            for first in "abcd":
                for last in "abcd":
                    train = led(heap, first, last)
                    self.assertEqual(train is not None, (first, last) in ends)
                    if train is not None:
                        self.assert_train(heap, train)
                        self.assertEqual(train_ends(train), (first, last))
            self.assertEqual(one_train(heap) is not None, len(ends) > 0)
            self.assertEqual(ring(heap) is not None, any(first == last for first, last in ends))

    def test_all_ends_of_great_heaps(self):
        for heap in [*LARGE, FULL]:
            for first in heap.kinds():
                for last in heap.kinds():
                    train = led(heap, first, last)
                    if train is not None:
                        self.assert_train(heap, train)
                        self.assertEqual(train_ends(train), (first, last))
            if one_train(heap) is not None:
                self.assertIsNotNone(led(heap, *train_ends(one_train(heap))))

    def test_front_and_back_exchanged(self):
        for heap in FEW[:100]:
            for first in heap.kinds():
                for last in heap.kinds():
                    self.assertEqual(led(heap, first, last) is None, led(heap.about(), last, first) is None)

    def test_kinds_exchanged(self):
        names = {"a": "d", "b": "a", "c": "zz", "d": "b", "e": "c"}
        for heap in [*SMALL, *LARGE[:30]]:
            renamed = heap.renamed(names)
            self.assertEqual(how_many(trains(renamed)), how_many(trains(heap)))
            self.assertEqual(ring(renamed) is None, ring(heap) is None)
            for first in heap.kinds():
                for last in heap.kinds():
                    told = led(renamed, names[first], names[last])
                    self.assertEqual(told is None, led(heap, first, last) is None)

    def test_trains_behind_one_another_and_about(self):
        heap = Heap({TURN: GREAT + 1, BC: 3, CC: 4})
        split = [*trains(heap), *trains(heap), *trains_by(heap, {TURN: 0, BC: 0})]
        self.assertEqual(heap_in(split), 3 * heap)
        train = led(heap, "a", "b") or one_train(heap)
        self.assertEqual(train_ends(train_about(train)), train_ends(train)[::-1])

    def test_what_is_returned_is_new(self):
        heap = Heap({AB: 3, TURN: 4, BC: 2, CC: GREAT})
        for function in [trains, lambda one: trains_by(one, {TURN: 1, BC: 1})]:
            split = function(heap)
            told = copy.deepcopy(split)
            for _, train in split:
                train[0][1].clear()
                train.clear()
            split.clear()
            self.assertEqual(function(heap), told)

    def test_the_example_of_the_document(self):
        ab, bc, dd = cart_of("a", "b"), cart_of("c", "b", turns=True), cart_of("d", "d")
        heap = Heap({ab: 2, bc: 1, dd: 10 ** 30})
        split = trains(heap)
        told = [how_many(split), is_split(heap, split), split_ends(split)]
        self.assertEqual(told, [3, True, [("a", "b", 1), ("a", "c", 1), ("d", "d", 1)]])
        round_trip = 10 ** 20 * Heap({ab: 1, cart_of("b", "a"): 1})
        told = [one_train(heap), train_ends(led(Heap({ab: 1, bc: 1}), "a", "c")), length(ring(round_trip))]
        self.assertEqual(told, [None, ("a", "c"), 200000000000000000000])
