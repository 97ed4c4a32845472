import copy
import string
import unittest

from hookcarts.kinds import is_cart, is_integer, is_kind, is_number, is_step
from tests.things import strange_values

NUMBERS = [0, 1, -1, 255, 10 ** 30, -10 ** 30, 10 ** 60]
KINDS = ["a", "z", "ab", "zzzzzzzz", "abcdefgh", "true", "none", *string.ascii_lowercase]
CARTS = [
    ("a", "b", True), ("a", "b", False), ("b", "a", False), ("a", "a", True), ("a", "a", False),
    ("abcdefgh", "abcdefgi", True), ("a", "aa", True), ("aa", "a", False), ("z", "zz", True),
]
STEPS = [(cart, False) for cart in CARTS] + [
    (("a", "b", True), True), (("abcdefgh", "abcdefgi", True), True), (("a", "aa", True), True),
]


class KindsTest(unittest.TestCase):
    def assert_only(self, told, right):
        """Check that of all values only the right ones are told, by a truth, and that none is changed."""
        for thing in [*NUMBERS, *KINDS, *CARTS, *STEPS, *strange_values()]:
            before = copy.deepcopy(thing)
            with self.subTest(thing=repr(thing)[:60]):
                # The texts are compared, since Python takes True to be equal to 1.
                expected = repr(thing) in [repr(one) for one in right]
                self.assertIs(told(thing), expected)
                self.assertEqual(thing, before)

    def test_integers(self):
        self.assert_only(is_integer, NUMBERS)

    def test_integers_are_no_truths(self):
        self.assertIs(is_integer(True), False)
        self.assertIs(is_integer(False), False)

    def test_numbers(self):
        self.assert_only(lambda thing: is_number(0, thing), [n for n in NUMBERS if n >= 0])
        self.assert_only(lambda thing: is_number(-1, thing), [n for n in NUMBERS if n >= -1])
        self.assert_only(lambda thing: is_number(10 ** 30, thing), [10 ** 30, 10 ** 60])

    def test_numbers_from_the_least_one_on(self):
        for least in [-10 ** 30, -1, 0, 1, 2, 10 ** 30]:
            self.assertIs(is_number(least, least - 1), False)
            self.assertIs(is_number(least, least), True)
            self.assertIs(is_number(least, least + 1), True)
        self.assertIs(is_number(1, True), False)
        self.assertIs(is_number(0, False), False)
        self.assertIs(is_number(-5, True), False)

    def test_kinds(self):
        self.assert_only(is_kind, KINDS)

    def test_lengths_of_kinds(self):
        for length in range(20):
            self.assertIs(is_kind("k" * length), 1 <= length <= 8)

    def test_each_character_of_a_kind_is_a_letter(self):
        for code in range(128):
            right = chr(code) in string.ascii_lowercase
            for thing in [chr(code), "ab" + chr(code), chr(code) + "ab", "abcdefg" + chr(code), "a" + chr(code) + "b"]:
                self.assertIs(is_kind(thing), right)

    def test_carts(self):
        self.assert_only(is_cart, CARTS)

    def test_a_truth_is_not_taken_for_a_number(self):
        for number in [0, 1]:
            self.assertIs(is_cart(("a", "b", number)), False)
            self.assertIs(is_step((("a", "b", True), number)), False)
            self.assertIs(is_step((("a", "b", number), False)), False)

    def test_only_carts_that_turn_have_the_lesser_kind_in_front(self):
        self.assertIs(is_cart(("b", "a", True)), False)
        self.assertIs(is_cart(("b", "a", False)), True)
        self.assertIs(is_cart(("aa", "a", True)), False)
        self.assertIs(is_cart(("a", "a", True)), True)

    def test_steps(self):
        self.assert_only(is_step, STEPS)

    def test_only_carts_that_turn_and_have_two_kinds_stand_turned(self):
        for cart in CARTS:
            self.assertIs(is_step((cart, False)), True)
            self.assertIs(is_step((cart, True)), cart[2] and cart[0] != cart[1])
