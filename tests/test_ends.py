import unittest

from hookcarts.carts import begin_of, cart_of, end_of
from hookcarts.ends import always_ends, ends, least_ends, most_begins, most_ends
from hookcarts.errors import NoKind
from hookcarts.fewest import fewest
from hookcarts.heaps import Heap
from hookcarts.splits import split_ends
from hookcarts.strains import greatest
from hookcarts.trains import led, one_train, trains
from tests.things import GREAT, plain_cheapest, some_heaps, strange_values, whole_rows

AB, BA, TURN = cart_of("a", "b"), cart_of("b", "a"), cart_of("a", "b", turns=True)
BC, CC, DD = cart_of("b", "c", turns=True), cart_of("c", "c", turns=True), cart_of("d", "d")
EMPTY = Heap({})
HEAP = Heap({AB: 1, TURN: 1, BC: 1})
SMALL = [HEAP, *some_heaps(150, ["a", "b", "c", "d"], 5, [1, 2, 3])]
FEW = [heap for heap in some_heaps(400, ["a", "b", "c"], 4, [1, 2]) if heap.count() < 7]
LARGE = some_heaps(60, ["a", "b", "c", "d", "e"], 12, [1, 2, GREAT, GREAT - 1, GREAT - 7, GREAT // 3, 10 ** 15])
NAMES = {"a": "d", "b": "a", "c": "zz", "d": "b", "e": "c"}


def plain_least_ends(heap, kind):
    """Return the least number of ends at a kind, found by coupling cart by cart."""
    return plain_cheapest(heap, lambda one: one == kind, lambda one: one == kind)


def plain_most(heap, kind, begin, end):
    """Return the greatest number of trains of the fewest that begin, or end, or both, at a kind."""
    cost = plain_cheapest(heap, lambda one: 1000 - begin * (one == kind), lambda one: -end * (one == kind))
    return -cost % 1000


class EndsTest(unittest.TestCase):
    def test_ends(self):
        self.assertEqual(ends(EMPTY), [])
        self.assertEqual(ends(Heap({AB: 1})), [("a", "b")])
        self.assertEqual(ends(Heap({BA: 1})), [("b", "a")])
        self.assertEqual(ends(Heap({TURN: 1})), [("a", "b"), ("b", "a")])
        self.assertEqual(ends(Heap({AB: 2})), [])
        self.assertEqual(ends(Heap({AB: 1, DD: 1})), [])
        self.assertEqual(ends(Heap({DD: GREAT})), [("d", "d")])
        self.assertEqual(ends(Heap({AB: GREAT, BA: GREAT, BC: 4})), [("a", "a"), ("b", "b"), ("c", "c")])
        self.assertEqual(ends(Heap({AB: GREAT, BA: GREAT - 1})), [("a", "b")])
        self.assertEqual(ends(Heap({AB: GREAT, TURN: GREAT - 1})), [("a", "b")])
        self.assertEqual(ends(Heap({AB: GREAT, TURN: GREAT + 1})), [("a", "b"), ("b", "a")])

    def test_ends_of_few_carts(self):
        for heap in FEW:
            rows = whole_rows(heap)
            told = sorted({(begin_of(row[0]), end_of(row[-1])) for row in rows})
            self.assertEqual(ends(heap), told)

    def test_ends_of_great_heaps(self):
        ones = 0
        for heap in LARGE:
            found = ends(heap)
            self.assertEqual(len(found) > 0, fewest(heap) == 1)
            self.assertEqual(found, sorted(set(found)))
            if found and not heap.odd():
                self.assertEqual(found, [(kind, kind) for kind in heap.kinds()])
            if found and heap.odd():
                one, other = heap.odd()
                self.assertTrue(set(found) <= {(one, other), (other, one)})
            for first, last in found:
                ones += 1
                self.assertIsNotNone(led(heap, first, last))
        self.assertGreater(ones, 10)

    def test_least_ends(self):
        self.assertEqual([least_ends(HEAP, kind) for kind in "abc"], [0, 1, 1])
        self.assertEqual(least_ends(Heap({AB: 5, TURN: 2}), "a"), 3)
        self.assertEqual(least_ends(Heap({DD: 1, AB: 1}), "d"), 2)
        self.assertEqual(least_ends(Heap({CC: GREAT}), "c"), 2)
        self.assertEqual(least_ends(Heap({CC: GREAT, BC: 1}), "c"), 1)
        self.assertEqual(least_ends(Heap({CC: GREAT, BC: 2}), "c"), 0)
        self.assertEqual(least_ends(Heap({AB: GREAT, BA: 7, TURN: 3}), "b"), GREAT - 10)
        self.assertEqual(least_ends(Heap({AB: 7, BA: GREAT, TURN: GREAT}), "b"), 1)

    def test_least_ends_of_carts_coupled_one_by_one(self):
        for heap in [*SMALL, *FEW[:50]]:
            for kind in heap.kinds():
                self.assertEqual(least_ends(heap, kind), plain_least_ends(heap, kind))

    def test_always_ends(self):
        self.assertEqual(always_ends(EMPTY), [])
        self.assertEqual(always_ends(HEAP), ["b", "c"])
        self.assertEqual(always_ends(Heap({DD: 3, AB: 2, BA: 2})), ["d"])
        self.assertEqual(always_ends(Heap({BA: GREAT, TURN: GREAT - 2})), ["a", "b"])
        for heap in SMALL:
            told = [kind for kind in heap.kinds() if plain_least_ends(heap, kind) > 0]
            self.assertEqual(always_ends(heap), told)

    def test_most_begins_and_ends(self):
        heap = Heap({AB: 5, TURN: 2})
        self.assertEqual([most_begins(heap, "a"), most_ends(heap, "a")], [3, 0])
        self.assertEqual([most_begins(heap, "b"), most_ends(heap, "b")], [0, 3])
        self.assertEqual([most_begins(HEAP, kind) for kind in "abc"], [0, 1, 1])
        self.assertEqual([most_ends(HEAP, kind) for kind in "abc"], [0, 1, 1])
        for kind in "ab":
            for rings in [Heap({AB: GREAT, BA: GREAT}), Heap({TURN: 2, DD: 1}), Heap({AB: 1, BA: 1, CC: 5})]:
                self.assertEqual([most_begins(rings, kind), most_ends(rings, kind)], [1, 1])
        self.assertEqual([most_begins(Heap({DD: 1, AB: 9}), "d"), most_ends(Heap({DD: 1, AB: 9}), "d")], [1, 1])
        self.assertEqual([most_begins(Heap({DD: 1, AB: 9}), "a"), most_ends(Heap({DD: 1, AB: 9}), "b")], [9, 9])
        self.assertEqual(most_begins(Heap({AB: GREAT, BA: 7}), "a"), GREAT - 7)
        self.assertEqual(most_ends(Heap({BA: GREAT, TURN: 7}), "a"), GREAT - 7)

    def test_most_begins_and_ends_of_carts_coupled_one_by_one(self):
        for heap in [*SMALL, *FEW[:50]]:
            for kind in heap.kinds():
                self.assertEqual(most_begins(heap, kind), plain_most(heap, kind, 1, 0))
                self.assertEqual(most_ends(heap, kind), plain_most(heap, kind, 0, 1))

    def test_no_split_has_fewer_or_more(self):
        for heap in LARGE:
            told = split_ends(trains(heap))
            for kind in heap.kinds():
                begins = sum(number for first, _, number in told if first == kind)
                finishes = sum(number for _, last, number in told if last == kind)
                self.assertLessEqual(least_ends(heap, kind), begins + finishes)
                if greatest(heap) > 0:
                    self.assertLessEqual(begins, most_begins(heap, kind))
                    self.assertLessEqual(finishes, most_ends(heap, kind))

    def test_no_kind(self):
        for function in [least_ends, most_begins, most_ends]:
            for heap in [HEAP, EMPTY, Heap({DD: GREAT})]:
                for thing in ["e", "zzzzzzzz", 3, [], *strange_values()]:
                    with self.assertRaises(NoKind) as caught:
                        function(heap, thing)
                    self.assertIs(caught.exception.kind, thing)

    def test_kinds_exchanged(self):
        for heap in [*SMALL[:60], *LARGE[:10]]:
            renamed = heap.renamed(NAMES)
            self.assertEqual(ends(renamed), sorted((NAMES[first], NAMES[last]) for first, last in ends(heap)))
            self.assertEqual(always_ends(renamed), sorted(NAMES[kind] for kind in always_ends(heap)))
            for kind in heap.kinds():
                for function in [least_ends, most_begins, most_ends]:
                    self.assertEqual(function(renamed, NAMES[kind]), function(heap, kind))

    def test_front_and_back_exchanged(self):
        for heap in [*SMALL[:60], *LARGE[:10]]:
            self.assertEqual(ends(heap.about()), sorted((last, first) for first, last in ends(heap)))
            for kind in heap.kinds():
                self.assertEqual(least_ends(heap.about(), kind), least_ends(heap, kind))
                self.assertEqual(most_begins(heap.about(), kind), most_ends(heap, kind))

    def test_one_train(self):
        for heap in SMALL:
            train = one_train(heap)
            self.assertEqual(train is None, ends(heap) == [])

    def test_the_example_of_the_document(self):
        ab, ba, bc = cart_of("a", "b"), cart_of("a", "b", turns=True), cart_of("b", "c", turns=True)
        heap = Heap({ab: 1, ba: 1, bc: 1})
        told = [ends(heap), ends(Heap({ab: 2})), always_ends(heap), least_ends(Heap({ab: 5, ba: 2}), "a")]
        self.assertEqual(told, [[("b", "c"), ("c", "b")], [], ["b", "c"], 3])
        self.assertEqual([most_begins(Heap({ab: 5, ba: 2}), "a"), most_begins(heap, "b")], [3, 1])
