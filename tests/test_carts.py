import inspect
import unittest

from hookcarts.carts import about, begin_of, cart_of, couple, end_of, steps_of
from hookcarts.errors import Fixed
from hookcarts.kinds import is_cart, is_step

NAMES = ["a", "b", "ab", "zzzzzzzz"]
ALL = [cart_of(one, other, turns=turns) for one in NAMES for other in NAMES for turns in (False, True)]


class CartsTest(unittest.TestCase):
    def test_fixed_carts_stay_as_they_are_told(self):
        self.assertEqual(cart_of("a", "b"), ("a", "b", False))
        self.assertEqual(cart_of("b", "a"), ("b", "a", False))
        self.assertEqual(cart_of("b", "a", turns=False), ("b", "a", False))
        self.assertEqual(cart_of("c", "c"), ("c", "c", False))

    def test_carts_that_turn_have_the_lesser_kind_in_front(self):
        self.assertEqual(cart_of("a", "b", turns=True), ("a", "b", True))
        self.assertEqual(cart_of("b", "a", turns=True), ("a", "b", True))
        self.assertEqual(cart_of("aa", "a", turns=True), ("a", "aa", True))
        self.assertEqual(cart_of("c", "c", turns=True), ("c", "c", True))

    def test_carts_have_truths(self):
        for cart in ALL:
            self.assertIs(is_cart(cart), True)
        self.assertIs(cart_of("a", "b")[2], False)
        self.assertIs(cart_of("b", "a", turns=True)[2], True)

    def test_turns_is_passed_by_keyword(self):
        self.assertRaises(TypeError, cart_of, "a", "b", True)
        self.assertIs(inspect.signature(cart_of).parameters["turns"].default, False)

    def test_steps(self):
        self.assertEqual(steps_of(("a", "b", True)), [(("a", "b", True), False), (("a", "b", True), True)])
        self.assertEqual(steps_of(("a", "b", False)), [(("a", "b", False), False)])
        self.assertEqual(steps_of(("a", "a", True)), [(("a", "a", True), False)])
        self.assertEqual(steps_of(("a", "a", False)), [(("a", "a", False), False)])

    def test_steps_are_all_the_steps_of_a_cart_ascending(self):
        for cart in ALL:
            expected = [(cart, turned) for turned in (False, True) if is_step((cart, turned))]
            self.assertEqual(steps_of(cart), expected)
            self.assertTrue(all(step[1] in (False, True) and is_step(step) for step in steps_of(cart)))

    def test_lists_of_steps_are_new(self):
        steps_of(("a", "b", True)).clear()
        self.assertEqual(len(steps_of(("a", "b", True))), 2)

    def test_where_steps_lead(self):
        for cart in ALL:
            self.assertEqual([begin_of((cart, False)), end_of((cart, False))], [cart[0], cart[1]])
        step = (("a", "b", True), True)
        self.assertEqual([begin_of(step), end_of(step)], ["b", "a"])

    def test_about(self):
        cart = ("a", "b", True)
        self.assertEqual(about((cart, False)), (cart, True))
        self.assertEqual(about((cart, True)), (cart, False))
        self.assertIs(about((cart, False))[1], True)

    def test_about_of_one_kind_is_the_same_step(self):
        step = (("c", "c", True), False)
        self.assertEqual(about(step), step)
        self.assertIs(is_step(about(step)), True)

    def test_about_of_fixed_carts(self):
        for cart in [("a", "b", False), ("b", "a", False), ("a", "a", False)]:
            with self.assertRaises(Fixed) as caught:
                about((cart, False))
            self.assertIs(type(caught.exception.index), int)
            self.assertEqual(caught.exception.index, 0)

    def test_about_leads_the_other_way(self):
        for cart in ALL:
            for step in steps_of(cart):
                if cart[2]:
                    self.assertEqual([begin_of(about(step)), end_of(about(step))], [end_of(step), begin_of(step)])
                    self.assertEqual(about(about(step)), step)

    def test_couple(self):
        steps = [step for cart in ALL for step in steps_of(cart)]
        for step in steps:
            for other in steps:
                self.assertIs(couple(step, other), end_of(step) == begin_of(other))
        self.assertIs(couple((("a", "b", False), False), (("b", "c", False), False)), True)
        self.assertIs(couple((("b", "c", False), False), (("a", "b", False), False)), False)
        self.assertIs(couple((("a", "b", True), True), (("a", "b", True), False)), True)

    def test_the_example_of_the_document(self):
        ab, cc = cart_of("b", "a", turns=True), cart_of("c", "c", turns=True)
        self.assertEqual([ab, steps_of(ab), steps_of(cc)], [
            ("a", "b", True), [(("a", "b", True), False), (("a", "b", True), True)], [(("c", "c", True), False)]])
