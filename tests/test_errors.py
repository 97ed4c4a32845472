import unittest

from hookcarts import errors
from hookcarts.errors import CartError
from tests.things import strange_values

FIELDS = {
    "Wrong": "place", "NoKind": "kind", "NoCart": "cart", "Missing": "cart", "Both": "kind", "Fixed": "index",
    "NoPlace": "index", "NoNumber": "number", "NoRange": "cart", "Refused": "deed", "NoText": "index",
}
PLAIN = ("Loose", "NoAdapters", "Nothing", "NoCommand")


class ErrorsTest(unittest.TestCase):
    def test_the_base_is_a_value_error(self):
        self.assertEqual(CartError.__bases__, (ValueError,))

    def test_all_fifteen_are_direct_subclasses(self):
        found = {name for name, thing in vars(errors).items() if isinstance(thing, type)}
        self.assertEqual(found, {*FIELDS, *PLAIN, "CartError"})
        for name in [*FIELDS, *PLAIN]:
            with self.subTest(name):
                self.assertEqual(getattr(errors, name).__bases__, (CartError,))

    def test_fields_hold_the_very_objects(self):
        for name, field in FIELDS.items():
            for thing in [*strange_values(), ("a", "b", False), 7, 10 ** 30]:
                with self.subTest(name=name, thing=repr(thing)[:60]):
                    self.assertIs(getattr(getattr(errors, name)(thing), field), thing)

    def test_fields_of_arguments_by_keyword(self):
        for name, field in FIELDS.items():
            thing = [name]
            self.assertIs(getattr(getattr(errors, name)(**{field: thing}), field), thing)

    def test_exactly_one_argument(self):
        for name in FIELDS:
            with self.subTest(name):
                self.assertRaises(TypeError, getattr(errors, name))
                self.assertRaises(TypeError, getattr(errors, name), 1, 2)

    def test_errors_without_arguments(self):
        for name in PLAIN:
            with self.subTest(name), self.assertRaises(CartError) as caught:
                raise getattr(errors, name)()
            self.assertEqual(type(caught.exception).__name__, name)

    def test_the_base_may_be_constructed_from_any_values(self):
        for told in [(), (None,), ([],), ({}, {1}), *[(thing, thing) for thing in strange_values()]]:
            self.assertIsInstance(CartError(*told), ValueError)
            self.assertTrue(all(one is other for one, other in zip(CartError(*told).told, told, strict=True)))

    def test_they_are_caught_as_value_errors(self):
        for name in FIELDS:
            with self.subTest(name), self.assertRaises(ValueError):
                raise getattr(errors, name)(None)
