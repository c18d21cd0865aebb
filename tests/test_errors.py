"""The errors: [0.2] and narrowplay/errors.py."""

import unittest

from narrowplay import errors
from narrowplay.errors import BadText, NotOfOne, PlayError
from tests.helpers import ANY_VALUES, check_parameters

WITH_THING = [
    "BadPoly", "BadWord", "BadScript", "BadProgram", "BadCode", "BadMachine", "BadNumber", "BadPicks", "BadPlayer",
    "BadShape", "BadStanding", "BadFormula", "BadFilling", "BadTies", "BadStep",
]
ALL = WITH_THING + ["BadText", "NotOfOne"]


class Errors(unittest.TestCase):

    def test_base(self):
        self.assertEqual(PlayError.__bases__, (Exception,))
        with self.assertRaises(PlayError):
            raise PlayError()

    def test_each_is_a_direct_subclass_and_nothing_else(self):
        for name in ALL:
            made = getattr(errors, name)
            self.assertEqual(made.__bases__, (PlayError,), name)
            self.assertEqual(made.__name__, name)
            self.assertEqual(made.__module__, "narrowplay.errors")

    def test_there_are_no_others(self):
        found = [name for name, made in vars(errors).items() if isinstance(made, type)]
        self.assertEqual(sorted(found), sorted(ALL + ["PlayError"]))
        self.assertEqual(sorted(made.__name__ for made in PlayError.__subclasses__()), sorted(ALL))

    def test_none_is_of_another_class(self):
        for name in ALL:
            raised = NotOfOne() if name == "NotOfOne" else getattr(errors, name)(1)
            for other in ALL:
                self.assertEqual(isinstance(raised, getattr(errors, other)), name == other, (name, other))
            for python in (ValueError, TypeError, LookupError, ArithmeticError, RuntimeError):
                self.assertNotIsInstance(raised, python)

    def test_thing(self):
        for name in WITH_THING:
            made = getattr(errors, name)
            check_parameters(self, made, ["thing"])
            for value in ANY_VALUES:
                self.assertIs(made(value).thing, value)
                self.assertIs(made(thing=value).thing, value)
                self.assertEqual(list(vars(made(value))), ["thing"])

    def test_at(self):
        check_parameters(self, BadText, ["at"])
        for value in ANY_VALUES:
            self.assertIs(BadText(value).at, value)
            self.assertIs(BadText(at=value).at, value)
            self.assertEqual(list(vars(BadText(value))), ["at"])

    def test_not_of_one(self):
        check_parameters(self, NotOfOne, [])
        self.assertEqual(vars(NotOfOne()), {})
        with self.assertRaises(TypeError):
            NotOfOne(1)

    def test_a_parameter_is_needed(self):
        for name in WITH_THING + ["BadText"]:
            made = getattr(errors, name)
            with self.assertRaises(TypeError):
                made()
            with self.assertRaises(TypeError):
                made(1, 2)

    def test_they_can_be_raised_and_caught(self):
        for name in WITH_THING + ["BadText"]:
            made = getattr(errors, name)
            with self.assertRaises(PlayError) as caught:
                raise made([name])
            self.assertEqual(list(vars(caught.exception).values()), [[name]])
            self.assertIsInstance(str(caught.exception), str)
        with self.assertRaises(PlayError):
            raise NotOfOne()
