"""Point [4]: the errors."""

import unittest

from knownways import errors
from tests.helpers import ARGUMENTS, Case, anything

KINDS = list(ARGUMENTS) + [errors.Impossible]


class Errors(Case):

    def test_there_are_just_these_errors(self):
        found = {name for name, value in vars(errors).items() if isinstance(value, type)}
        self.assertEqual(found, {"WaysError", "InvalidStep", "InvalidTrait", "InvalidExpr", "InvalidRow",
                                 "InvalidText", "InvalidWorld", "InvalidStart", "InvalidClaim", "NoName",
                                 "NoStep", "NoRow", "Impossible"})

    def test_all_are_direct_subclasses_of_ways_error(self):
        self.assertEqual(errors.WaysError.__bases__, (ValueError,))
        for kind in KINDS:
            self.assertEqual(kind.__bases__, (errors.WaysError,), kind)

    def test_none_is_an_instance_of_another_one(self):
        for kind in KINDS:
            error = errors.Impossible() if kind is errors.Impossible else kind("x")
            self.assertIsInstance(error, ValueError)
            self.assertEqual([other for other in KINDS if isinstance(error, other)], [kind])

    def test_the_argument_itself_is_kept(self):
        for kind, attribute in ARGUMENTS.items():
            for value in anything():
                self.assertTrue(getattr(kind(value), attribute) is value, (kind, value))
                self.assertTrue(getattr(kind(**{attribute: value}), attribute) is value, (kind, value))
                self.assertIn(attribute, vars(kind(value)))

    def test_a_kept_list_is_not_a_copy(self):
        told = ["x"]
        error = errors.InvalidExpr(told)
        told.append("y")
        self.assertEqual(error.word, ["x", "y"])

    def test_the_argument_is_needed(self):
        for kind in ARGUMENTS:
            with self.assertRaises(TypeError):
                kind()
        self.assertEqual(vars(errors.Impossible()), {})

    def test_they_are_raised_and_caught_as_ways_errors_and_as_value_errors(self):
        for kind in KINDS:
            for caught in (kind, errors.WaysError, ValueError):
                with self.assertRaises(caught):
                    raise kind() if kind is errors.Impossible else kind("x")


if __name__ == "__main__":
    unittest.main()
