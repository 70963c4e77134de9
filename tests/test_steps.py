"""Points [1], [5] and [6]: names, steps, steps applied."""

import string
import unittest
from itertools import product

from knownways.errors import InvalidExpr, InvalidStep
from knownways.exprs import Expr, named
from knownways.steps import Step
from tests.helpers import F, G, H, K, Case, anything, no_names, no_parts, some_steps


def all_ways():
    return ["".join(ways) for count in (1, 2, 3) for ways in product("+-?", repeat=count)]


class Made(Case):

    def test_name_and_ways_are_kept(self):
        for name in ("f", "ab", "abc", "abcd", "z", "zzzz", "elif", "ends", "iff", "els", "put"):
            for ways in all_ways():
                step = Step(name, ways)
                self.assertEqual((step.name, step.ways, len(step)), (name, ways, len(ways)))
                self.assertEqual(str(step), name + " " + ways)

    def test_every_lower_case_letter_makes_a_name(self):
        for letter in string.ascii_lowercase:
            for name in (letter, "a" + letter, letter + "bc", "abc" + letter):
                self.assertEqual(Step(name, "+").name, name)

    def test_every_other_character_makes_none(self):
        for letter in [chr(code) for code in range(32, 127)] + ["\n"]:
            if letter not in string.ascii_lowercase:
                for name in (letter, "a" + letter, letter + "a", "ab" + letter + "c"):
                    self.check_error(InvalidStep, "name", Step, name, "+")

    def test_other_values_are_no_names(self):
        for value in no_names():
            self.check_error(InvalidStep, "name", Step, value, "+")
            self.check_error(InvalidStep, "name", Step, value, "no ways")

    def test_other_values_are_no_ways(self):
        for value in anything():
            if value not in ("+", "-", "?"):
                self.check_error(InvalidStep, "ways", Step, "f", value)
        for value in ("", "++++", "----", "+ ", " +", "+x", "x", "+-*", "+\n", "\n", "+=", "?-+?", "*", ",", "."):
            self.check_error(InvalidStep, "ways", Step, "f", value)
        for code in list(range(32, 127)) + [10]:
            if chr(code) not in "+-?":
                for value in (chr(code), "+" + chr(code), chr(code) + "-", "?" + chr(code) + "?"):
                    self.check_error(InvalidStep, "ways", Step, "f", value)

    def test_ways_in_a_list_are_no_ways(self):
        for value in (["+"], ("+", "-"), [["+"]]):
            self.check_error(InvalidStep, "ways", Step, "f", value)

    def test_the_name_is_looked_at_first(self):
        self.check_error(InvalidStep, "name", Step, "if", "")
        self.check_error(InvalidStep, "name", Step, None, None)

    def test_arguments_by_name(self):
        self.check_equal(Step(name="f", ways="+-"), Step("f", "+-"))
        self.check_equal(Step(ways="+-", name="f"), Step("f", "+-"))
        self.check_error(InvalidStep, "name", Step, ways="+", name="")

    def test_listed(self):
        self.check_listed(F, ("__init__", "__call__", "__mul__", "__pow__", "__len__", "__eq__", "__str__"),
                          ("name", "ways"))
        self.assertEqual(Step.__module__, "knownways.steps")


class Equal(Case):

    def test_equal_steps(self):
        for step in some_steps():
            self.check_equal(step, Step(str(step.name), str(step.ways)))
            self.check_equal(step, step)

    def test_unlike_steps(self):
        self.check_all_unlike(some_steps() + [Step("f", "-"), Step("f", "++"), Step("ff", "+")])

    def test_nothing_else_is_equal(self):
        for value in anything():
            if not isinstance(value, Step):
                self.check_unlike(F, value)
                self.check_unlike(H, value)


class Applied(Case):

    def check_applied(self, expr, step, parts):
        self.assertIsInstance(expr, Expr)
        self.assertEqual((expr.kind, expr.word, expr.step, expr.parts), ("step", "", step, parts))

    def test_as_many_parts_as_arguments(self):
        x, y, z = named("x"), named("y"), named("z")
        self.check_applied(F("x"), F, (x,))
        self.check_applied(F(x), F, (x,))
        self.check_applied(H("x", "y"), H, (x, y))
        self.check_applied(H(y, "x"), H, (y, x))
        self.check_applied(K("z", y, "x"), K, (z, y, x))
        self.check_applied(K(F(x), x & y, "z"), K, (F("x"), x & "y", z))
        self.assertEqual(str(K(F(x), H("y", "y"), "z")), "k(f(x), h(y, y), z)")

    def test_none_stands_for_no_part(self):
        self.check_equal(F("x", None, None), F("x"))
        self.check_equal(H("x", "y", None), H("x", "y"))

    def test_parts_by_name(self):
        self.check_equal(F(first="x"), F("x"))
        self.check_equal(H(second="y", first="x"), H("x", "y"))
        self.check_equal(H("x", second="y", third=None), H("x", "y"))
        self.check_equal(K(third="z", first="x", second="y"), K("x", "y", "z"))

    def test_not_just_the_first_parts(self):
        given = [None, "x", "if", 3, F("x"), [None], 0, False, ()]
        for step in (F, H, K):
            for parts in product(given, repeat=3):
                present = [part is not None for part in parts]
                if present != [True] * len(step) + [False] * (3 - len(step)):
                    self.check_error(InvalidExpr, "count", step, *parts)
        for parts in (("x", "y"), ("x", "y", "z"), ("x", None, "z"), (None,), (None, "x"), (None, None, "x")):
            self.check_error(InvalidExpr, "count", F, *parts)
        for parts in (("x",), ("x", None), (None, "y"), ("x", "y", "z"), ("x", None, "z"), (None, None, None)):
            self.check_error(InvalidExpr, "count", H, *parts)
        for parts in (("x",), ("x", "y"), ("x", None, "z"), (None, "y", "z"), ("x", "y", None)):
            self.check_error(InvalidExpr, "count", K, *parts)

    def test_other_values_are_no_parts(self):
        for value in no_parts():
            if value is not None:
                self.check_error(InvalidExpr, "part", F, value)
                self.check_error(InvalidExpr, "part", H, value, "y")
                self.check_error(InvalidExpr, "part", H, "x", value)
                self.check_error(InvalidExpr, "part", K, value, "y", "z")
                self.check_error(InvalidExpr, "part", K, "x", value, value)
                self.check_error(InvalidExpr, "part", K, "x", "y", value)
                self.check_error(InvalidExpr, "part", K, third=value, second="y", first="x")

    def test_the_count_is_looked_at_first(self):
        for value in no_parts():
            if value is not None:
                self.check_error(InvalidExpr, "count", F, value, "y")
                self.check_error(InvalidExpr, "count", F, "x", value)
                self.check_error(InvalidExpr, "count", H, value)
                self.check_error(InvalidExpr, "count", K, value, value)

    def test_unlike_steps_of_one_name_may_stand_in_one_expression(self):
        self.assertEqual(str(F(Step("f", "-")("x"))), "f(f(x))")

    def test_the_same_call_again(self):
        part = F("x")
        self.check_equal(H(part, "y"), H(part, "y"))
        self.check_equal(part, F("x"))
        self.check_equal(G(G("x")), G(G("x")))


if __name__ == "__main__":
    unittest.main()
