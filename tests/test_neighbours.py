import copy
import unittest

from hookcarts.carts import begin_of, cart_of, couple, end_of, steps_of
from hookcarts.errors import Missing
from hookcarts.fewest import fewest
from hookcarts.heaps import Heap
from hookcarts.longtrains import carts_of, is_train, length, stretch
from hookcarts.neighbours import begun, can_stand, couples, fewest_with, first_place, goes_on, held, standing
from hookcarts.rows import carts_in, row_ends
from hookcarts.splits import how_many
from hookcarts.trains import one_train, trains
from tests.things import GREAT, has_twice, long_row, some_heaps, stands_in, whole_rows

AB, BA, TURN = cart_of("a", "b"), cart_of("b", "a"), cart_of("a", "b", turns=True)
BC, CC, DD = cart_of("b", "c", turns=True), cart_of("c", "c", turns=True), cart_of("d", "d")
EMPTY = Heap({})
HEAP = Heap({AB: 1, TURN: 1, BC: 1})
FEW = [heap for heap in some_heaps(300, ["a", "b", "c"], 4, [1, 2]) if 0 < heap.count() < 7]
LARGE = [heap for heap in some_heaps(240, ["a", "b", "c", "d"], 8, [1, 2, GREAT, GREAT - 1]) if fewest(heap) == 1]
NAMES = {"a": "c", "b": "a", "c": "zz", "d": "b"}


def short_rows(heap, most):
    """Return all rows of at most so many of the carts of a heap."""
    found, longest = [], [[]]
    for _ in range(most):
        longest = [[*row, step] for row in longest for cart in heap for step in steps_of(cart)
                   if (not row or couple(row[-1], step)) and heap[cart] > [one for one, _ in row].count(cart)]
        found.extend(longest)
    return found


def plain_fewest_with(heap, row):
    """Return the fewest trains with a row in one of them, found by placing all carts one behind another."""
    best = []
    waiting = [(0, None, False, heap.carts())]
    while waiting:
        number, at, stood, left = waiting.pop()
        if not left:
            best.append(number if stood else 10 ** 6)
        for cart in left:
            rest = (Heap(left) - Heap({cart: 1})).carts()
            for step in steps_of(cart):
                waiting.append((number + (begin_of(step) != at), end_of(step), stood, rest))
        if not stood and Heap(carts_in(row)).is_within(Heap(left)):
            first, last = row_ends(row)
            rest = (Heap(left) - Heap(carts_in(row))).carts()
            waiting.append((number + (first != at), last, True, rest))
    return min(best)


class NeighboursTest(unittest.TestCase):
    def assert_train(self, heap, train):
        self.assertIs(is_train(train), True)
        self.assertEqual(carts_of(train), heap.carts())
        self.assertFalse(has_twice(train))

    def test_held(self):
        self.assertEqual(held(HEAP, [(AB, False), (BC, False)]).carts(), {TURN: 1, ("a", "c", False): 1})
        self.assertEqual(held(HEAP, [(BC, True)]).carts(), {AB: 1, TURN: 1, ("c", "b", False): 1})
        self.assertEqual(held(HEAP, [(TURN, True), (AB, False)]).carts(), {BC: 1, ("b", "b", False): 1})
        self.assertEqual(held(HEAP, [(AB, False)]), HEAP)
        self.assertEqual(held(Heap({AB: GREAT, TURN: 1}), [(TURN, False)]).carts(), {AB: GREAT + 1})
        self.assertEqual(held(Heap({CC: GREAT}), [(CC, False)] * 3).carts(), {("c", "c", False): 1, CC: GREAT - 3})
        self.assertEqual(held(Heap({DD: 2}), [(DD, False), (DD, False)]).carts(), {DD: 1})

    def test_fewest_with(self):
        self.assertEqual(fewest_with(HEAP, [(BC, True), (TURN, True)]), 1)
        self.assertEqual(fewest_with(HEAP, [(AB, False), (BC, False)]), 1)
        self.assertEqual(fewest_with(HEAP, [(AB, False), (TURN, True)]), 2)
        self.assertEqual(fewest_with(HEAP, [(TURN, False), (BC, False)]), 2)
        self.assertEqual(fewest_with(Heap({TURN: 4, DD: 1}), [(TURN, True)]), 2)
        self.assertEqual(fewest_with(Heap({AB: GREAT, TURN: 7}), [(TURN, False)]), GREAT - 5)
        for heap in FEW[:60]:
            if heap.count() < 6:
                for row in short_rows(heap, 3):
                    self.assertEqual(fewest_with(heap, row), plain_fewest_with(heap, row))

    def test_rows_of_few_carts(self):
        for heap in FEW:
            rows = whole_rows(heap)
            for row in short_rows(heap, 3):
                stood = any(stands_in(row, whole) for whole in rows)
                self.assertIs(can_stand(heap, row), stood)
                train = standing(heap, row)
                self.assertEqual(train is not None, stood)
                if stood:
                    self.assert_train(heap, train)
                    self.assertTrue(stands_in(row, long_row(train)))
                started = any(whole[:len(row)] == row for whole in rows)
                train = begun(heap, row)
                self.assertEqual(train is not None, started)
                if started:
                    self.assert_train(heap, train)
                    self.assertEqual(long_row(train)[:len(row)], row)
                more = {tuple(whole[len(row):len(row) + 1]) for whole in rows if whole[:len(row)] == row}
                self.assertEqual(goes_on(heap, row), sorted(step for steps in more for step in steps))

    def test_whole_rows(self):
        for heap in FEW:
            for row in whole_rows(heap)[:5]:
                self.assertIs(can_stand(heap, row), True)
                self.assertEqual(long_row(standing(heap, row)), row)
                self.assertEqual(long_row(begun(heap, row)), row)
                self.assertEqual(goes_on(heap, row), [])
                self.assertIn(row[-1], goes_on(heap, row[:-1]) if row[:-1] else [row[-1]])

    def test_rows_of_great_heaps(self):
        self.assertGreater(len(LARGE), 10)
        stood, started, missed = 0, 0, 0
        for heap in LARGE:
            for row in short_rows(heap, 2)[::2] + [stretch(one_train(heap), 0, min(60, length(one_train(heap))))]:
                train = standing(heap, row)
                self.assertEqual(train is not None, can_stand(heap, row))
                if train is None:
                    missed += 1
                else:
                    stood += 1
                    self.assert_train(heap, train)
                    self.assertLessEqual(len(train), 100)
                    self.assertLessEqual(max(len(steps) for _, steps in train), 60)
                    self.assertIsNotNone(first_place(train, row))
                train = begun(heap, row)
                if train is not None:
                    started += 1
                    self.assert_train(heap, train)
                    self.assertEqual(stretch(train, 0, len(row)), row)
                    self.assertEqual(first_place(train, row), 0)
                    self.assertIs(can_stand(heap, row), True)
                    if length(train) > len(row):
                        self.assertIn(stretch(train, len(row), 1)[0], goes_on(heap, row))
                for step in goes_on(heap, row):
                    self.assertIsNotNone(begun(heap, [*row, step]))
        self.assertGreater(min(stood, started, missed), 20, (stood, started, missed))

    def test_trains_go_on_as_they_do(self):
        for heap in LARGE[:12]:
            row = stretch(one_train(heap), 0, min(40, length(one_train(heap)) - 1))
            for index in range(1, len(row)):
                self.assertIn(row[index], goes_on(heap, row[:index]))

    def test_a_row_stands_where_the_heap_with_one_cart_in_its_place_goes_into_one_train(self):
        for heap in FEW[:80]:
            for row in short_rows(heap, 2):
                self.assertIs(can_stand(heap, row), one_train(held(heap, row)) is not None)
                self.assertEqual(fewest_with(heap, row), how_many(trains(held(heap, row))))

    def test_a_cart_that_the_heap_has_already(self):
        heap = Heap({AB: 2, BA: 2, BC: 4, CC: GREAT})
        row = [(AB, False), (BC, False), (CC, False), (BC, True)]
        train = standing(heap, row)
        self.assert_train(heap, train)
        self.assertIsNotNone(first_place(train, row))
        heap = Heap({AB: GREAT, BA: GREAT, TURN: 2})
        for row in [[(TURN, False), (TURN, True)], [(AB, False), (BA, False)] * 30, [(TURN, True)],
                    [(TURN, True), (AB, False), (BA, False), (TURN, False)]]:
            train = standing(heap, row)
            self.assert_train(heap, train)
            self.assertIsNotNone(first_place(train, row))

    def test_missing(self):
        heap = Heap({AB: 2, TURN: 1, CC: 3, BC: 1})
        for row, cart in [([(BA, False)], BA), ([(AB, False), (TURN, True), (AB, False), (TURN, True)], TURN),
                          ([(AB, False), (TURN, True), (TURN, False)], TURN), ([(CC, False)] * 4, CC),
                          ([(AB, False), (BA, False), (TURN, False), (TURN, True)], TURN),
                          ([(BC, False), (CC, False), (BC, True), (BA, False)], BA), ([(DD, False)], DD)]:
            told = sorted(one for one, number in carts_in(row).items() if number > heap[one])[0]
            self.assertEqual(told, cart)
            for function in [held, fewest_with, can_stand, standing, begun, goes_on]:
                before = list(row)
                with self.assertRaises(Missing) as caught:
                    function(heap, row)
                self.assertEqual(caught.exception.cart, cart)
                with self.assertRaises(Missing):
                    function(EMPTY, row)
                self.assertEqual(row, before)

    def test_goes_on(self):
        self.assertEqual(goes_on(HEAP, [(BC, True)]), [(TURN, True)])
        self.assertEqual(goes_on(HEAP, [(BC, True), (TURN, True)]), [(AB, False)])
        self.assertEqual(goes_on(HEAP, [(BC, True), (TURN, True), (AB, False)]), [])
        self.assertEqual(goes_on(HEAP, [(AB, False)]), [])
        heap = Heap({CC: GREAT, TURN: 2, BC: 2})
        self.assertEqual(goes_on(heap, [(BC, False)]), [(CC, False)])
        self.assertEqual(goes_on(heap, [(TURN, False)]), [(BC, False)])
        self.assertEqual(goes_on(heap, [(CC, False)] * 50), [(BC, True), (CC, False)])
        self.assertEqual(goes_on(Heap({TURN: 3}), [(TURN, False)]), [(TURN, True)])

    def test_couples(self):
        self.assertEqual(couples(EMPTY), [])
        self.assertEqual(couples(Heap({AB: 1})), [])
        self.assertEqual(couples(Heap({CC: 1})), [])
        self.assertEqual(couples(Heap({CC: 2})), [((CC, False), (CC, False))])
        self.assertEqual(couples(Heap({AB: 2, BA: 1})), [((AB, False), (BA, False)), ((BA, False), (AB, False))])
        self.assertEqual(couples(Heap({AB: 2})), [])
        self.assertEqual(couples(Heap({DD: 2, AB: 1, BA: 1})), [])
        turned = [((TURN, False), (TURN, True)), ((TURN, True), (TURN, False))]
        self.assertEqual(couples(Heap({TURN: GREAT})), turned)
        self.assertEqual(couples(Heap({TURN: 1})), [])
        for heap in FEW:
            rows = whole_rows(heap)
            told = sorted({(step, other) for row in rows for step, other in zip(row, row[1:])})
            self.assertEqual(couples(heap), told)

    def test_couples_of_great_heaps(self):
        for heap in LARGE[:12]:
            row = stretch(one_train(heap), 0, min(200, length(one_train(heap))))
            found = couples(heap)
            self.assertEqual(found, sorted(set(found)))
            self.assertTrue(set(zip(row, row[1:])) <= set(found))
            for pair in found:
                self.assertIsNotNone(standing(heap, list(pair)))

    def test_kinds_exchanged(self):
        for heap in FEW[:40]:
            # The order of the kinds is kept, so that all carts keep their front.
            names = {"a": "b", "b": "cc", "c": "d"}
            told = [[((names[cart[0]], names[cart[1]], cart[2]), turned) for cart, turned in pair] for pair in couples(heap)]
            self.assertEqual(couples(heap.renamed(names)), [(one, other) for one, other in told])
            for row in short_rows(heap, 2):
                renamed = [((names[cart[0]], names[cart[1]], cart[2]), turned) for cart, turned in row]
                self.assertIs(can_stand(heap.renamed(names), renamed), can_stand(heap, row))
                self.assertEqual(held(heap.renamed(names), renamed), held(heap, row).renamed(names))

    def test_first_place(self):
        ab, ba, cc = (AB, False), (BA, False), (CC, False)
        turned, bc = (TURN, True), (BC, False)
        self.assertEqual(first_place([(10 ** 30, [ab, turned]), (1, [ab, bc])], [ab, bc]), 2 * 10 ** 30)
        self.assertEqual(first_place([(1, [ab])], [ab]), 0)
        self.assertIsNone(first_place([(1, [ab])], [ba]))
        self.assertIsNone(first_place([(1, [ab])], [ab, ba]))
        self.assertEqual(first_place([(GREAT, [ab, ba])], [ba, ab]), 1)
        self.assertEqual(first_place([(1, [bc]), (GREAT, [cc]), (1, [(BC, True)])], [cc, (BC, True)]), GREAT)
        self.assertEqual(first_place([(1, [bc]), (GREAT, [cc]), (1, [(BC, True)])], [cc] * 59 + [(BC, True)]), GREAT - 58)
        self.assertEqual(first_place([(1, [bc]), (GREAT, [cc]), (1, [(BC, True)])], [bc] + [cc] * 59), 0)
        self.assertEqual(first_place([(1, [bc]), (GREAT, [cc]), (1, [(BC, True)])], [cc] * 60), 1)
        self.assertIsNone(first_place([(1, [bc]), (59, [cc]), (1, [(BC, True)])], [cc] * 60))
        self.assertEqual(first_place([(1, [bc]), (30, [cc]), (30, [cc])], [cc] * 60), 1)
        self.assertEqual(first_place([(GREAT, [ab, ba]), (GREAT, [ab, turned])], [turned, ab, turned]), 2 * GREAT + 1)
        self.assertEqual(first_place([(GREAT, [ab, ba]), (GREAT, [ab, turned])], [ba, ab, turned]), 2 * GREAT - 1)
        self.assertEqual(first_place([(GREAT, [cc] * 59 + [cc])], [cc] * 60), 0)

    def test_first_places_in_short_trains(self):
        steps = [(AB, False), (BA, False), (CC, False), (TURN, True), (DD, False)]
        rings = [[steps[0], steps[1]], [steps[0], steps[3]], [steps[0], steps[1], steps[0], steps[3]],
                 [steps[0], steps[1], steps[0], steps[1]]]
        for first in rings:
            for second in rings:
                for many in [1, 2, 3, 7, 40]:
                    for other in [1, 2, 5]:
                        train = [(many, first), (other, second), (3, first), (1, [steps[0]])]
                        whole = long_row(train)
                        rows = [whole[at:at + size] for size in [1, 2, 3, 5, 8, 20, 60]
                                for at in [0, 1, 2, len(whole) // 2, len(whole) - size] if 0 <= at <= len(whole) - size]
                        for row in [*rows, first + first, [steps[4]], [steps[1], steps[0]], whole + [steps[1]]]:
                            places = [at for at in range(len(whole)) if whole[at:at + len(row)] == row]
                            self.assertEqual(first_place(train, row), places[0] if places else None)

    def test_arguments_stay_as_they_are_and_results_are_new(self):
        row = [(AB, False), (BC, False), (BC, True)]
        heap = Heap({AB: 2, BA: 2, BC: 2})
        for function in [held, fewest_with, can_stand, standing, begun, goes_on]:
            before = copy.deepcopy(row)
            told = copy.deepcopy(function(heap, row))
            result = function(heap, row)
            if isinstance(result, list):
                for part in result:
                    if isinstance(part[1], list):
                        part[1].clear()
                result.clear()
            self.assertEqual(row, before)
            self.assertEqual(function(heap, row), told)
        # A row of all carts is told in a new list, too.
        for function in [standing, begun]:
            [(_, told)] = function(Heap(carts_in(row)), row)
            self.assertEqual(told, row)
            self.assertIsNot(told, row)
        train = [(GREAT, [(AB, False), (BA, False)])]
        first_place(train, [(BA, False)])
        self.assertEqual(train, [(GREAT, [(AB, False), (BA, False)])])

    def test_the_example_of_the_document(self):
        ab, ba, bc = cart_of("a", "b"), cart_of("a", "b", turns=True), cart_of("b", "c", turns=True)
        heap = Heap({ab: 1, ba: 1, bc: 1})
        self.assertEqual(held(heap, [(ab, False), (bc, False)]).carts(), {("a", "b", True): 1, ("a", "c", False): 1})
        place = first_place([(10 ** 30, [(ab, False), (ba, True)]), (1, [(ab, False), (bc, False)])],
                            [(ab, False), (bc, False)])
        self.assertEqual([goes_on(heap, [(bc, True)]), place == 2 * 10 ** 30], [[(("a", "b", True), True)], True])
        self.assertEqual(couples(heap), [
            ((("a", "b", False), False), (("b", "c", True), False)),
            ((("a", "b", True), True), (("a", "b", False), False)),
            ((("b", "c", True), True), (("a", "b", True), True)),
        ])
