"""The error classes [0.23]."""

import inspect

from fewtouched import errors
from tests.values import ALL, Case

WITH_MESSAGE = ("InvalidScene", "InvalidBase", "InvalidView", "InvalidRole", "InvalidOperation", "InvalidEdit",
                "ParseError", "InvalidCommand")
WITH_VALUE = {"InvalidNumber": (IndexError, "value"), "UnknownName": (KeyError, "name"),
              "TooMany": (OverflowError, "limit"), "NotThere": (LookupError, "row"),
              "Strained": (ArithmeticError, "bridge"), "NothingToUndo": (ArithmeticError, "many")}


def named(name):
    return getattr(errors, name)


class ErrorsWithMessage(Case):

    def test_touch_error(self):
        self.assertEqual(errors.TouchError.__bases__, (ValueError,))
        with self.assertRaises(ValueError):
            raise errors.TouchError("a message")

    def test_derived_directly(self):
        for name in WITH_MESSAGE:
            with self.subTest(name):
                self.assertEqual(named(name).__bases__, (errors.TouchError,))

    def test_raised_and_caught(self):
        for name in WITH_MESSAGE:
            for caught in (named(name), errors.TouchError, ValueError):
                with self.subTest(name, caught=caught):
                    with self.assertRaises(caught):
                        raise named(name)("a message")

    def test_not_derived_from_one_another(self):
        for name in WITH_MESSAGE:
            others = [other for other in (*WITH_MESSAGE, *WITH_VALUE) if other != name]
            for other in others:
                with self.subTest(name, other=other):
                    self.assertFalse(issubclass(named(name), named(other)))


class ErrorsWithValue(Case):

    def test_bases(self):
        for name, (base, _) in WITH_VALUE.items():
            with self.subTest(name):
                self.assertTrue(issubclass(named(name), base))

    def test_not_derived_from_others(self):
        for name in WITH_VALUE:
            others = [other for other in (*WITH_MESSAGE, *WITH_VALUE, "TouchError") if other != name]
            for other in others:
                with self.subTest(name, other=other):
                    self.assertFalse(issubclass(named(name), named(other)))

    def test_keeps_the_value(self):
        for name, (_, attribute) in WITH_VALUE.items():
            for value in ALL:
                with self.subTest(name, value=value):
                    self.assertIs(getattr(named(name)(value), attribute), value)

    def test_raised_and_caught(self):
        for name, (base, attribute) in WITH_VALUE.items():
            for caught in (named(name), base):
                with self.subTest(name, caught=caught):
                    with self.assertRaises(caught) as seen:
                        raise named(name)(("a", 1))
                    self.assertEqual(getattr(seen.exception, attribute), ("a", 1))

    def test_takes_one_value(self):
        for name, (_, attribute) in WITH_VALUE.items():
            with self.subTest(name):
                self.assertEqual(list(inspect.signature(named(name)).parameters), [attribute])

    def test_many_errors_are_of_python_too(self):
        self.assertTrue(issubclass(errors.InvalidNumber, LookupError))
        self.assertTrue(issubclass(errors.UnknownName, LookupError))
        self.assertTrue(issubclass(errors.TooMany, ArithmeticError))


class Module(Case):

    def test_all_are_defined_here(self):
        for name in ("TouchError", *WITH_MESSAGE, *WITH_VALUE):
            with self.subTest(name):
                self.assertEqual(named(name).__module__, "fewtouched.errors")

    def test_cannot_be_iterated_over(self):
        for name in ("TouchError", *WITH_MESSAGE, *WITH_VALUE):
            with self.subTest(name):
                self.assertRaises(TypeError, iter, named(name)("a"))
