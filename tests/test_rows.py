import copy
import unittest

from hookcarts.carts import cart_of, couple, steps_of
from hookcarts.errors import Fixed
from hookcarts.rows import carts_in, is_row, row_about, row_ends
from tests.things import strange_values

AB, BA, BC = cart_of("a", "b", turns=True), cart_of("b", "a"), cart_of("b", "c", turns=True)
BB, CC, FIX = cart_of("b", "b", turns=True), cart_of("c", "c"), cart_of("a", "b")
ROWS = [
    [(AB, False)], [(AB, True)], [(BA, False)], [(BB, False)], [(CC, False)], [(AB, False), (AB, True), (AB, False)],
    [(AB, False), (BB, False), (BB, False), (BC, False), (CC, False), (BC, True), (BA, False), (FIX, False)],
    [(AB, False), (BA, False)] * 1000,
]
NO_ROWS = [
    [], [(AB, False), (AB, False)], [(BA, False), (BC, False)], [(AB, False), (BC, False), (BC, False)],
    [(AB, False), (BC, True)], [(BC, False), (AB, True)], [(AB, False), (AB, 1)], [(AB, 0)], [(FIX, True)],
    [(BB, True)], [AB], [(AB, False), None], [None, (AB, False)], [(AB, False), []], [[AB, False]],
    [(("b", "a", True), False)], ((AB, False),), {(AB, False): 1}, (AB, False), [[(AB, False)]],
]


def all_rows(carts, length):
    """Return all rows of so many steps of these carts."""
    rows = [[]]
    for _ in range(length):
        rows = [[*row, step] for row in rows for cart in carts for step in steps_of(cart)
                if not row or couple(row[-1], step)]
    return rows


class RowsTest(unittest.TestCase):
    def test_rows(self):
        for row in ROWS:
            before = copy.deepcopy(row)
            self.assertIs(is_row(row), True)
            self.assertEqual(row, before)

    def test_no_rows(self):
        for thing in [*NO_ROWS, *strange_values()]:
            before = copy.deepcopy(thing)
            with self.subTest(thing=repr(thing)[:60]):
                self.assertIs(is_row(thing), False)
                self.assertEqual(thing, before)

    def test_rows_of_two_steps(self):
        steps = [step for cart in [AB, BA, BC, BB, CC, FIX] for step in steps_of(cart)]
        for step in steps:
            for other in steps:
                self.assertIs(is_row([step, other]), couple(step, other))

    def test_ends(self):
        self.assertEqual(row_ends([(AB, False)]), ("a", "b"))
        self.assertEqual(row_ends([(AB, True)]), ("b", "a"))
        self.assertEqual(row_ends([(AB, False), (BC, False)]), ("a", "c"))
        self.assertEqual(row_ends([(BC, True), (AB, True), (AB, False)]), ("c", "b"))
        self.assertEqual(row_ends([(BB, False)]), ("b", "b"))

    def test_carts_in(self):
        row = [(BC, True), (BA, False), (AB, False), (AB, True), (AB, False)]
        self.assertEqual(carts_in(row), {AB: 3, BA: 1, BC: 1})
        self.assertEqual(list(carts_in(row)), [AB, BA, BC])
        self.assertEqual(list(carts_in(ROWS[-2])), sorted([AB, BB, BC, CC, BA, FIX]))
        self.assertEqual(carts_in(ROWS[-1]), {AB: 1000, BA: 1000})

    def test_dicts_are_new(self):
        row = [(AB, False), (BC, False)]
        carts_in(row)[AB] = 7
        carts_in(row).clear()
        self.assertEqual(carts_in(row), {AB: 1, BC: 1})

    def test_about(self):
        self.assertEqual(row_about([(AB, False), (BC, False)]), [(BC, True), (AB, True)])
        self.assertEqual(row_about([(AB, True), (AB, False), (BB, False)]), [(BB, False), (AB, True), (AB, False)])

    def test_about_of_all_small_rows(self):
        for row in [row for length in (1, 2, 3, 4) for row in all_rows([AB, BC, BB], length)]:
            before = copy.deepcopy(row)
            turned = row_about(row)
            self.assertIs(is_row(turned), True)
            self.assertEqual(row_ends(turned), row_ends(row)[::-1])
            self.assertEqual([cart for cart, _ in turned], [cart for cart, _ in row][::-1])
            self.assertEqual(row_about(turned), row)
            turned.clear()
            self.assertEqual(row, before)

    def test_about_of_fixed_carts(self):
        for row in [row for length in (1, 2, 3, 4) for row in all_rows([AB, BA, CC, BC], length)]:
            fixed = [index for index, (cart, _) in enumerate(row) if not cart[2]]
            if fixed:
                with self.assertRaises(Fixed) as caught:
                    row_about(row)
                self.assertEqual(caught.exception.index, fixed[0])

    def test_the_index_is_that_in_the_row_as_it_was_passed(self):
        with self.assertRaises(Fixed) as caught:
            row_about([(AB, False), (AB, True), (FIX, False), (BC, False), (CC, False)])
        self.assertEqual(caught.exception.index, 2)

    def test_the_example_of_the_document(self):
        bc = cart_of("b", "c")
        self.assertEqual(row_ends([(AB, False), (bc, False)]), ("a", "c"))
        self.assertEqual(row_about([(AB, False), (AB, True), (AB, False)])[0], (AB, True))
