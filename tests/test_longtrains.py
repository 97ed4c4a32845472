import copy
import unittest

from hookcarts.carts import cart_of
from hookcarts.errors import Fixed, Loose, NoPlace
from hookcarts.longtrains import carts_of, is_train, joined, length, step_at, stretch, train_about, train_ends
from hookcarts.rows import carts_in, is_row, row_about, row_ends
from tests.things import strange_values

AB, BA, BC = cart_of("a", "b", turns=True), cart_of("b", "a"), cart_of("b", "c", turns=True)
BB, CC, FIX = cart_of("b", "b", turns=True), cart_of("c", "c"), cart_of("a", "b")
GREAT = 10 ** 30
SMALL = [
    [(1, [(AB, False)])],
    [(1, [(AB, True)])],
    [(3, [(BB, False)])],
    [(2, [(AB, False), (AB, True)]), (1, [(AB, False), (BC, False)])],
    [(1, [(BC, True)]), (4, [(BB, False)]), (2, [(BC, False), (BC, True), (BB, False)]), (1, [(AB, True)])],
    [(1, [(FIX, False)]), (2, [(BA, False), (FIX, False)]), (1, [(BC, False), (CC, False)])],
    [(3, [(AB, False), (AB, True), (FIX, False), (BA, False)])],
    [(2, [(AB, False), (BB, False), (BC, False), (BC, True), (AB, True)]), (2, [(AB, False), (BA, False)])],
    [(1, [(BC, False)]), (1, [(BC, True)]), (1, [(BB, False), (BC, False)]), (5, [(CC, False)])],
]
ROW = [(AB, False), (AB, True)]
LONG = [(1, [(BC, True)]), (GREAT, [(BB, False), (BB, False)]), (GREAT, [(BC, False), (BC, True), (BB, False)])]
NO_TRAINS = [
    [], [(0, ROW)], [(-1, ROW)], [(True, ROW)], [(False, ROW)], [("1", ROW)], [(None, ROW)], [(1, [])], [(1, None)],
    [(2, [(AB, False)])], [(GREAT, [(AB, False), (BC, False)])], [(1, [(AB, False)]), (1, [(AB, False)])],
    [(1, [(AB, False)]), (1, [(BA, False)]), (1, [(BC, False)])], [(1, [(AB, False), (AB, False)])],
    [(1, ROW), (2, [(AB, False)])], [(1, ROW), None], [None, (1, ROW)], [(1, ROW, 1)], [(1,)], [1, ROW], [[1, ROW]],
    ((1, ROW),), (1, ROW), {1: ROW}, ROW, [ROW], [(ROW, 1)], [(1, tuple(ROW))], [(1, [ROW])], [(1, [(AB, 0)])],
    [(1, [(AB, False)]), (1, [(BA, False)]), (0, ROW)], [(1, [(FIX, True)])], [(1, [(("a", "b", 1), False)])],
]
NO_INDEXES = [-1, -GREAT, True, False, None, "0", "", [], [0], {}, (0,), ("a", "b", True), b"", [[[]]]]


def long_row(train):
    """Return the long row of a train of small numbers."""
    return [step for many, row in train for step in row * many]


class LongTrainsTest(unittest.TestCase):
    def assert_no_place(self, index, function, *arguments):
        with self.assertRaises(NoPlace) as caught:
            function(*arguments)
        self.assertIs(caught.exception.index, index)

    def test_trains(self):
        for train in [*SMALL, LONG, [(1, ROW)] * 1000, [(GREAT, ROW)], [(1, ROW * 1000)]]:
            before = copy.deepcopy(train)
            self.assertIs(is_train(train), True)
            self.assertEqual(train, before)

    def test_no_trains(self):
        for thing in [*NO_TRAINS, *strange_values()]:
            before = copy.deepcopy(thing)
            with self.subTest(thing=repr(thing)[:80]):
                self.assertIs(is_train(thing), False)
                self.assertEqual(thing, before)

    def test_many_rows_need_one_kind_at_both_ends(self):
        for many in [1, 2, 3, GREAT]:
            self.assertIs(is_train([(many, [(AB, False)])]), many == 1)
            self.assertIs(is_train([(many, [(AB, False), (BA, False)])]), True)
            self.assertIs(is_train([(1, ROW), (many, [(AB, False), (BC, False)])]), many == 1)

    def test_what_the_long_row_tells(self):
        for train in SMALL:
            row = long_row(train)
            self.assertIs(is_row(row), True)
            self.assertEqual(train_ends(train), row_ends(row))
            self.assertEqual(carts_of(train), carts_in(row))
            self.assertEqual(list(carts_of(train)), list(carts_in(row)))
            self.assertEqual(length(train), len(row))

    def test_ends_are_tuples(self):
        self.assertEqual(train_ends([(1, [(AB, True), (FIX, False)]), (1, [(BC, False)])]), ("b", "c"))
        self.assertEqual(train_ends([(2, [(BB, False)])]), ("b", "b"))

    def test_great_numbers(self):
        self.assertEqual(length(LONG), 1 + 5 * GREAT)
        self.assertEqual(carts_of(LONG), {BB: 3 * GREAT, BC: 2 * GREAT + 1})
        self.assertEqual(list(carts_of(LONG)), [BB, BC])
        self.assertEqual(train_ends(LONG), ("c", "b"))
        self.assertEqual(carts_of([*LONG, *LONG[1:]]), {BB: 6 * GREAT, BC: 4 * GREAT + 1})

    def test_dicts_are_new(self):
        carts_of(LONG).clear()
        self.assertEqual(len(carts_of(LONG)), 2)

    def test_steps_of_small_trains(self):
        for train in SMALL:
            row = long_row(train)
            self.assertEqual([step_at(train, index) for index in range(len(row))], row)
            for index in [len(row), len(row) + 1, GREAT]:
                self.assert_no_place(index, step_at, train, index)

    def test_steps_of_great_trains(self):
        self.assertEqual(step_at(LONG, 0), (BC, True))
        self.assertEqual(step_at(LONG, 1), (BB, False))
        self.assertEqual(step_at(LONG, 2 * GREAT), (BB, False))
        self.assertEqual(step_at(LONG, 2 * GREAT + 1), (BC, False))
        self.assertEqual(step_at(LONG, 2 * GREAT + 2), (BC, True))
        self.assertEqual(step_at(LONG, 5 * GREAT - 2), (BC, False))
        self.assertEqual(step_at(LONG, 5 * GREAT - 1), (BC, True))
        self.assertEqual(step_at(LONG, 5 * GREAT), (BB, False))
        index = 5 * GREAT + 1
        self.assert_no_place(index, step_at, LONG, index)

    def test_no_indexes(self):
        for thing in [*NO_INDEXES, *strange_values()]:
            with self.subTest(thing=repr(thing)[:60]):
                self.assert_no_place(thing, step_at, LONG, thing)
                self.assert_no_place(thing, stretch, LONG, thing, 1)
                self.assert_no_place(thing, stretch, LONG, thing, 0)

    def test_stretches_of_small_trains(self):
        for train in SMALL:
            row = long_row(train)
            before = copy.deepcopy(train)
            for first in range(len(row) + 3):
                for many in range(len(row) + 3):
                    if first + many <= len(row):
                        self.assertEqual(stretch(train, first, many), row[first:first + many])
                    else:
                        self.assert_no_place(first, stretch, train, first, many)
            self.assertEqual(train, before)

    def test_stretches_of_great_trains(self):
        steps = [(BC, False), (BC, True), (BB, False)]
        self.assertEqual(stretch(LONG, 2 * GREAT - 99, 200), [(BB, False)] * 100 + (steps * 34)[:100])
        self.assertEqual(stretch(LONG, 5 * GREAT - 198, 199), [(BB, False), *steps * 66])
        self.assertEqual(stretch(LONG, 5 * GREAT + 1, 0), [])
        self.assertEqual(stretch(LONG, 0, 200), [(BC, True)] + [(BB, False)] * 199)
        for first, many in [(5 * GREAT - 198, 200), (5 * GREAT + 2, 0), (5 * GREAT + 1, 1)]:
            self.assert_no_place(first, stretch, LONG, first, many)

    def test_stretches_are_new(self):
        train = copy.deepcopy(SMALL[3])
        stretch(train, 0, 4).clear()
        self.assertEqual(train, SMALL[3])
        self.assertIsNot(stretch(train, 0, 2), train[0][1])

    def test_joined(self):
        for one in SMALL:
            for other in SMALL:
                before = copy.deepcopy([one, other])
                if train_ends(one)[1] == train_ends(other)[0]:
                    train = joined(one, other)
                    self.assertIs(is_train(train), True)
                    self.assertEqual(long_row(train), long_row(one) + long_row(other))
                else:
                    self.assertRaises(Loose, joined, one, other)
                self.assertEqual([one, other], before)

    def test_joined_great_trains(self):
        train = joined(LONG, LONG[1:])
        self.assertEqual(length(train), 10 * GREAT + 1)
        self.assertEqual(step_at(train, 5 * GREAT + 1), (BB, False))
        self.assertRaises(Loose, joined, LONG, LONG)

    def test_joined_trains_share_no_lists(self):
        ring = [(2, [(AB, False), (AB, True)])]
        train = joined(ring, ring)
        rows = [row for _, row in train]
        for row in rows:
            row.clear()
        self.assertEqual(len({id(row) for row in rows}), len(rows))
        self.assertEqual(ring, [(2, [(AB, False), (AB, True)])])
        train.clear()
        self.assertEqual(len(ring), 1)

    def test_about(self):
        for train in SMALL:
            before = copy.deepcopy(train)
            row = long_row(train)
            fixed = [index for index, (cart, _) in enumerate(row) if not cart[2]]
            if fixed:
                with self.assertRaises(Fixed) as caught:
                    train_about(train)
                self.assertEqual(caught.exception.index, fixed[0])
            else:
                turned = train_about(train)
                self.assertIs(is_train(turned), True)
                self.assertEqual(long_row(turned), row_about(row))
                turned[0][1].clear()
            self.assertEqual(train, before)

    def test_about_of_great_trains(self):
        turned = train_about(LONG)
        self.assertIs(is_train(turned), True)
        self.assertEqual(length(turned), length(LONG))
        self.assertEqual(stretch(turned, 3 * GREAT - 3, 4), [(BB, False), (BC, False), (BC, True), (BB, False)])
        self.assertEqual(step_at(turned, 5 * GREAT), (BC, False))

    def test_the_index_is_that_in_the_long_row(self):
        train = [*LONG, (2, [(BB, False), (BC, False), (CC, False), (BC, True)]), (1, [(BA, False)])]
        with self.assertRaises(Fixed) as caught:
            train_about(train)
        self.assertEqual(caught.exception.index, 5 * GREAT + 1 + 2)

    def test_about_shares_no_lists(self):
        row = [(AB, False), (AB, True)]
        train = train_about([(1, row), (2, row)])
        train[0][1].clear()
        self.assertEqual(train[1], (1, [(AB, False), (AB, True)]))
        self.assertEqual(len(row), 2)

    def test_the_example_of_the_document(self):
        ab, bc, cc = cart_of("b", "a", turns=True), cart_of("b", "c"), cart_of("c", "c", turns=True)
        train = joined([(1, [(ab, False)]), (1, [(bc, False)])], [(10 ** 30, [(cc, False)])])
        self.assertEqual([length(train) - 10 ** 30, train_ends(train), step_at(train, 10 ** 30), carts_of(train)[ab]],
                         [2, ("a", "c"), (("c", "c", True), False), 1])
