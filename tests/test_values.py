"""Point [17]: the values of expressions in worlds."""

import re
import unittest

from knownways.errors import InvalidStart, NoName, NoStep
from knownways.exprs import named
from knownways.steps import Step
from knownways.worlds import World
from tests.helpers import Case, anything
from tests.making import NAMES, STEPS, Making, applied

U, D, M = Step("u", "+"), Step("d", "-"), Step("m", "++")
T = Step("t", "++?")
WORLD = World(3, [(U, (1, 2, 2)), (D, (2, 1, 0)), (M, ((0, 0, 1), (0, 1, 2), (1, 2, 2))),
                  (T, [[[0, 2, 1], [1, 2, 1], [2, 2, 1]]] * 3)])
START = {"x": 0, "y": 1, "z": 2}
X = named("x")


def value(expr, world, start):
    """The value by the text of the expression, as Python works it out."""
    known = {"of_" + step.name: applied(world[step]) for step in world.steps}
    # A name and a step may be called alike.
    text = re.sub(r"([a-z]+)\(", r"of_\1(", str(expr))
    return eval(text, {"of_lesser": min, "of_greater": max, **known}, dict(start))


class Worth(Case):

    def test_each_kind_of_expression(self):
        for expr, expected in ((X, 0), (named("z"), 2), (U("x"), 1), (U(U("x")), 2), (U(U(U("x"))), 2), (D("x"), 2),
                               (D("z"), 0), (M("y", "z"), 2), (M("z", "x"), 1), (T("x", "y", "z"), 1),
                               (T("z", "z", "x"), 2), (X & "y", 0), ("y" & X, 0), (X | "y", 1), ("y" | X, 1),
                               (X & "x", 0), (X | "x", 0), (U("x") | D(U("y")), 1), (D("x") & U(U("y")), 2),
                               (M(U("x"), D("x")) & (U("z") | "x"), 2)):
            self.assertEqual(WORLD.value(expr, START), expected, str(expr))
            self.assertIs(type(WORLD.value(expr, START)), int)

    def test_arguments_are_in_their_order(self):
        world = World(2, [(Step("q", "??"), ((0, 0), (1, 0)))])
        found = [world.value(Step("q", "??")(one, other), {"a": 0, "b": 1}) for one in "ab" for other in "ab"]
        self.assertEqual(found, [0, 0, 1, 0])

    def test_expressions_of_all_kinds(self):
        for seed in range(200):
            making = Making(seed)
            size = 1 + seed % 4
            expr, world, start = making.expr(4), making.world(size), making.start(size)
            self.assertEqual(world.value(expr, start), value(expr, world, start), str(expr))

    def test_only_the_steps_and_names_that_are_needed(self):
        self.assertEqual(World(2, []).value(X & "y", {"x": 1, "y": 0}), 0)
        self.assertEqual(WORLD.value(U("x"), {"x": 1}), 2)
        self.assertEqual(WORLD.value(U("x"), {"q": 0, "x": 1, "a": 2}), 2)
        self.assertEqual(World(1, []).value(X, {"x": 0}), 0)

    def test_by_name_and_again(self):
        start = dict(START)
        for _ in range(2):
            self.assertEqual(WORLD.value(start=start, expr=U(U("x"))), 2)
        self.assertEqual(start, START)
        self.assertEqual(list(start), list(START))


class Refused(Case):

    def test_no_step(self):
        for expr, name in ((Step("e", "+")("x"), "e"), (U(Step("w", "+")(Step("e", "+")("x"))), "e"),
                           (M(Step("w", "?")("x"), Step("v", "-")("x")), "v"), (Step("u", "-")("x"), "u"),
                           (Step("u", "++")("x", "x"), "u"), (X & Step("zz", "+")("x"), "zz"),
                           (U(Step("u", "?")("x")), "u"), (Step("m", "+-")("x", Step("n", "+")("x")), "m")):
            self.check_error(NoStep, name, WORLD.value, expr, START)
            self.check_error(NoStep, name, WORLD.value, expr, {})
            self.check_error(NoStep, name, WORLD.value, expr, {"x": 7})
            self.check_error(NoStep, expr.steps[0].name, World(2, []).value, expr, {"x": None})

    def test_no_name(self):
        for expr, name in ((X, "x"), (named("y") & X, "x"), (M("y", U("b")), "b"), (T("y", "c", "d"), "c"), (U("i"), "i")):
            self.check_error(NoName, name, WORLD.value, expr, {})
            self.check_error(NoName, name, WORLD.value, expr, {"y": 1, "q": 0})
            self.check_error(NoName, name, WORLD.value, expr, {"y": 7, "a": None})

    def test_invalid_start(self):
        for worth in anything() + [3, -1, 16, 10 ** 30, -10 ** 30, 0.0]:
            if worth.__class__ is not int or not 0 <= worth < 3:
                for expr in (X, U("x"), M("x", "x") & "y"):
                    self.check_error(InvalidStart, "x", WORLD.value, expr, {"x": worth, "y": 1})
                    self.check_error(InvalidStart, "q", WORLD.value, expr, {"x": 0, "y": 1, "q": worth})
                    self.check_error(InvalidStart, "a", WORLD.value, expr, {"x": 5, "y": worth, "b": worth, "a": worth})
                    self.check_error(InvalidStart, "b", WORLD.value, expr, {"x": 5, "y": worth, "b": worth, "a": 2})

    def test_a_start_is_of_one_size(self):
        for size in (1, 2, 3, 16):
            world = World(size, [])
            self.assertEqual(world.value(X, {"x": size - 1}), size - 1)
            self.check_error(InvalidStart, "x", world.value, X, {"x": size})

    def test_names_ascend_as_strings(self):
        self.check_error(InvalidStart, "aa", World(1, []).value, X, {"x": 1, "b": 1, "ab": 1, "aa": 1})
        self.check_error(NoName, "aa", World(1, []).value, named("b") & "ab" & "aa", {})

    def test_the_errors_in_their_order(self):
        expr = M(Step("w", "+")("x"), "y")
        self.check_error(NoStep, "w", WORLD.value, expr, {"a": 9})
        self.check_error(NoName, "x", WORLD.value, M("x", "y"), {"a": 9})
        self.check_error(NoName, "y", WORLD.value, M("x", "y"), {"x": 9})
        self.check_error(InvalidStart, "a", WORLD.value, M("x", "y"), {"x": 9, "y": 0, "a": True})

    def test_the_errors_keep_the_names_themselves(self):
        name = "".join(["a", "bc"])
        with self.assertRaises(InvalidStart) as caught:
            WORLD.value(X, {"x": 0, name: 8})
        self.assertIs(caught.exception.name, name)
        step = Step("".join(["n", "op"]), "+")
        with self.assertRaises(NoStep) as caught:
            WORLD.value(step("x"), {"x": 0})
        self.assertIs(caught.exception.name, step.name)

    def test_worlds_of_all_kinds_have_their_steps(self):
        self.assertEqual(Making(1).world(2).steps, tuple(sorted(STEPS, key=lambda step: step.name)))
        self.assertEqual(sorted(Making(1).start(2)), sorted(NAMES))


if __name__ == "__main__":
    unittest.main()
