"""Tests of goesout.errors: the opening of the interface."""

import copy
import inspect
import unittest

from goesout import errors

WITH_MESSAGE = (
    "NoRule", "NoPlaces", "NoState", "NoThing", "NoRequests", "NoFamily", "NoArrangement",
    "NoNumber", "NoWalk", "NoPath", "NoAccesses", "NoText", "NothingDone",
)
WITH_FIELD = (("TooMany", "limit"), ("NotNested", "at"), ("Pins", "thing"))


class ErrorsTest(unittest.TestCase):
    def test_base_is_a_value_error(self):
        self.assertEqual(errors.GoesError.__bases__, (ValueError,))
        self.assertEqual(str(errors.GoesError("words")), "words")

    def test_each_is_derived_directly(self):
        for name in WITH_MESSAGE + tuple(name for name, _ in WITH_FIELD):
            with self.subTest(name=name):
                found = getattr(errors, name)
                self.assertEqual(found.__bases__, (errors.GoesError,))
                self.assertEqual((found.__name__, found.__module__), (name, "goesout.errors"))

    def test_message(self):
        for name in WITH_MESSAGE:
            with self.subTest(name=name):
                self.assertEqual(str(getattr(errors, name)("some words")), "some words")

    def test_field(self):
        for name, field in WITH_FIELD:
            for value in (0, 5, 2000):
                with self.subTest(name=name, value=value):
                    made = getattr(errors, name)
                    self.assertEqual(getattr(made(value), field), value)
                    self.assertEqual(getattr(made(**{field: value}), field), value)
                    self.assertEqual(getattr(copy.copy(made(value)), field), value)

    def test_field_is_required(self):
        for name, _ in WITH_FIELD:
            with self.subTest(name=name), self.assertRaises(TypeError):
                getattr(errors, name)()

    def test_field_has_a_message(self):
        for name, _ in WITH_FIELD:
            self.assertIn("2000", str(getattr(errors, name)(2000)))

    def test_nothing_else_is_defined(self):
        found = {name for name, value in vars(errors).items() if inspect.isclass(value)}
        self.assertEqual(found, {"GoesError", *WITH_MESSAGE, *(name for name, _ in WITH_FIELD)})

    def test_caught_as_value_error(self):
        for name in WITH_MESSAGE:
            with self.subTest(name=name), self.assertRaises(ValueError):
                raise getattr(errors, name)("words")


if __name__ == "__main__":
    unittest.main()
