"""Point [19]: comparisons."""

import unittest
from itertools import product

from knownways.comparisons import Comparison
from knownways.errors import InvalidClaim, InvalidExpr, InvalidStart, NoName, NoStep
from knownways.exprs import Expr, named
from knownways.steps import Step
from knownways.worlds import World
from tests.helpers import F, G, H, Case, anything, no_parts
from tests.making import Making

SIGNS = ("<=", "<", "==")
U, D = Step("u", "+"), Step("d", "-")
WORLD = World(3, [(U, (1, 2, 2)), (D, (2, 1, 0))])
X, Y = named("x"), named("y")


def no_signs():
    """Values of all kinds other than the three signs."""
    return anything() + ["=", ">", ">=", "!=", "=<", "=>", "===", "<<", "<= ", " <=", "< =", "<\n", "<>", "less",
                         ["<="], ("<",), "<=<", "<, <=", "<==", b"<="]


class Made(Case):

    def test_attributes(self):
        for sign in SIGNS:
            told = Comparison(F("x"), sign, H("y", G("a")))
            self.assertEqual((told.left, told.sign, told.right), (F("x"), sign, H("y", G("a"))))
            self.assertEqual((told.names, told.steps), (("a", "x", "y"), (F, G, H)))
            self.assertEqual([type(told.names), type(told.steps)], [tuple, tuple])

    def test_a_name_stands_for_its_expression(self):
        told = Comparison("x", "<", "abcd")
        self.assertIsInstance(told.left, Expr)
        self.assertIsInstance(told.right, Expr)
        self.assertEqual((told.left, told.right, told.names, told.steps), (X, named("abcd"), ("abcd", "x"), ()))
        self.check_equal(told, Comparison(X, "<", named("abcd")))
        self.check_equal(Comparison("x", "<", F("y")), Comparison(X, "<", F(Y)))

    def test_names_and_steps_each_once_ascending(self):
        told = Comparison(G(F("z")) & "b", "==", "z" | F("aa"))
        self.assertEqual((told.names, told.steps), (("aa", "b", "z"), (F, G)))
        told = Comparison(Step("f", "?")("x"), "<", Step("f", "+")(Step("f", "-")("x")))
        self.assertEqual([str(step) for step in told.steps], ["f +", "f -", "f ?"])

    def test_str(self):
        self.assertEqual(str(Comparison("x", "<=", F("y"))), "x <= f(y)")
        self.assertEqual(str(Comparison(X & "y", "<", H("x", "y") | "z")), "lesser(x, y) < greater(h(x, y), z)")
        self.assertEqual(str(Comparison("x", "==", "x")), "x == x")

    def test_arguments_by_name(self):
        self.check_equal(Comparison(right="y", left="x", sign="<"), Comparison("x", "<", "y"))
        self.check_equal(Comparison("x", right="y", sign="<"), Comparison("x", "<", "y"))
        self.check_error(InvalidClaim, "sign", Comparison, right="y", left="x", sign=">")
        self.check_error(InvalidExpr, "part", Comparison, sign=">", right=3, left="x")

    def test_listed(self):
        self.check_listed(Comparison("x", "<", "y"), ("__init__", "holds", "__eq__", "__str__"),
                          ("left", "sign", "right", "names", "steps"))
        self.assertEqual(Comparison.__module__, "knownways.comparisons")


class Refused(Case):

    def test_sides(self):
        for value in no_parts():
            for sign in (*SIGNS, ">", None):
                self.check_error(InvalidExpr, "part", Comparison, value, sign, "x")
                self.check_error(InvalidExpr, "part", Comparison, F("x"), sign, value)
                self.check_error(InvalidExpr, "part", Comparison, value, sign, value)

    def test_signs(self):
        for value in no_signs():
            self.check_error(InvalidClaim, "sign", Comparison, "x", value, "y")
            self.check_error(InvalidClaim, "sign", Comparison, F("x"), value, F("x"))
            self.check_error(InvalidExpr, "part", Comparison, "X", value, "y")
            self.check_error(InvalidExpr, "part", Comparison, "x", value, None)

    def test_the_errors_keep_their_words(self):
        with self.assertRaises(InvalidClaim) as caught:
            Comparison("x", ">", "y")
        self.assertEqual(vars(caught.exception), {"word": "sign"})


class Holds(Case):

    def test_each_sign(self):
        for x, y in product(range(3), repeat=2):
            start = {"x": x, "y": y}
            for sign, expected in (("<=", x <= y), ("<", x < y), ("==", x == y)):
                self.assertIs(Comparison("x", sign, "y").holds(WORLD, start), expected)
                self.assertIs(Comparison("y", sign, "x").holds(WORLD, {"x": y, "y": x}), expected)
                self.assertIs(Comparison(D("x"), sign, D("y")).holds(WORLD, {"x": y, "y": x}), expected)
                self.assertIs(Comparison(X & "y", sign, X | "y").holds(WORLD, start),
                              {"<=": True, "<": x != y, "==": x == y}[sign])

    def test_expressions_of_all_kinds(self):
        for seed in range(150):
            making = Making(seed)
            size = 1 + seed % 4
            left, right, world, start = making.expr(3), making.expr(3), making.world(size), making.start(size)
            one, other = world.value(left, start), world.value(right, start)
            for sign, expected in (("<=", one <= other), ("<", one < other), ("==", one == other)):
                self.assertIs(Comparison(left, sign, right).holds(world, start), expected)

    def test_more_names_than_needed(self):
        self.assertIs(Comparison(U("x"), "<=", "x").holds(WORLD, {"x": 2, "a": 0, "z": 1}), True)

    def test_by_name_and_again(self):
        told, start = Comparison(U("x"), "<=", "x"), {"x": 1}
        for _ in range(2):
            self.assertIs(told.holds(start=start, world=WORLD), False)
        self.assertEqual((start, str(told)), ({"x": 1}, "u(x) <= x"))

    def test_no_step(self):
        for left, right, name in ((F("x"), "x", "f"), ("x", F("x"), "f"), (G(U("x")), F("x"), "f"), (F("x"), G("x"), "f"),
                                  (U("x"), Step("d", "+")("x"), "d"), (Step("u", "?")("x"), U("x"), "u")):
            for sign in SIGNS:
                for start in ({"x": 0}, {}, {"x": 9}, {"x": None, "a": 7}):
                    self.check_error(NoStep, name, Comparison(left, sign, right).holds, WORLD, start)

    def test_no_name(self):
        for left, right, name in (("x", "y", "x"), ("y", "x", "x"), (U("y"), D(X & "y"), "x"), ("c", "b", "b"),
                                  ("z", "ab", "ab"), (U("ab"), "b", "ab")):
            for sign in SIGNS:
                for start in ({}, {"a": 0}, {"a": None}, {"y": 7}, {"c": 1, "z": 9}):
                    self.check_error(NoName, name, Comparison(left, sign, right).holds, WORLD, start)
        self.check_error(NoName, "z", Comparison("y", "<", "z").holds, WORLD, {"y": 3})

    def test_invalid_start(self):
        for worth in anything() + [3, -1, 10 ** 30, -10 ** 30, 1.0]:
            if worth.__class__ is not int or not 0 <= worth < 3:
                told = Comparison("x", "<", U("y"))
                self.check_error(InvalidStart, "x", told.holds, WORLD, {"x": worth, "y": worth})
                self.check_error(InvalidStart, "y", told.holds, WORLD, {"y": worth, "x": 0})
                self.check_error(InvalidStart, "a", told.holds, WORLD, {"x": worth, "y": 0, "b": worth, "a": worth})

    def test_the_errors_in_their_order(self):
        self.check_error(NoStep, "f", Comparison("a", "<", F("x")).holds, WORLD, {"x": 9})
        self.check_error(NoName, "a", Comparison("x", "<", U("a")).holds, WORLD, {"x": 9})
        self.check_error(InvalidStart, "q", Comparison("x", "<", U("x")).holds, WORLD, {"x": 9, "q": False})


class Equal(Case):

    def test_equal(self):
        self.check_equal(Comparison(F("x") & "y", "<", "y"), Comparison(F(X) & Y, "<", Y))
        self.check_equal(Comparison("x", "==", "y"), Comparison("x", "==", "y"))

    def test_unlike(self):
        self.check_all_unlike([Comparison(left, sign, right) for left, right in
                               product(["x", "y", F("x"), Step("f", "-")("x"), X & "y", X | "y", Y & "x"], repeat=2)
                               for sign in SIGNS])

    def test_nothing_else_is_equal(self):
        told = Comparison("x", "<=", F("x"))
        for value in anything():
            if not isinstance(value, Comparison):
                self.check_unlike(told, value)
        for value in ("x <= f(x)", (X, "<=", F("x")), F("x"), ["x", "<=", F("x")]):
            self.check_unlike(told, value)


if __name__ == "__main__":
    unittest.main()
