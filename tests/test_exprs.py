"""Points [9] and [10]: expressions and their texts."""

import unittest

from knownways.errors import InvalidExpr
from knownways.exprs import Expr, named
from knownways.steps import Step
from knownways.traits import Trait, Traits
from tests.helpers import F, G, H, K, Case, anything, no_names, no_parts, some_exprs

X, Y, Z = named("x"), named("y"), named("z")


class Named(Case):

    def test_a_name(self):
        for word in ("x", "ab", "abc", "abcd", "elif"):
            expr = named(word)
            self.assertIsInstance(expr, Expr)
            self.assertEqual((expr.kind, expr.word, expr.step, expr.parts), ("name", word, None, ()))
            self.assertEqual((expr.names, expr.steps, len(expr), str(expr)), ((word,), (), 1, word))
        self.check_equal(named(word="x"), X)

    def test_other_values_are_no_names(self):
        for value in no_names():
            self.check_error(InvalidExpr, "name", named, value)
            self.check_error(InvalidExpr, "name", named, word=value)

    def test_listed(self):
        self.check_listed(X, ("__and__", "__rand__", "__or__", "__ror__", "__len__", "__eq__", "__str__"),
                          ("kind", "word", "step", "parts", "names", "steps"))
        self.assertEqual((Expr.__module__, named.__module__), ("knownways.exprs", "knownways.exprs"))


class LesserAndGreater(Case):

    def check_made(self, expr, kind, parts):
        self.assertIsInstance(expr, Expr)
        self.assertEqual((expr.kind, expr.word, expr.step, expr.parts), (kind, "", None, parts))

    def test_two_expressions(self):
        self.check_made(X & Y, "lesser", (X, Y))
        self.check_made(Y & X, "lesser", (Y, X))
        self.check_made(X | Y, "greater", (X, Y))
        self.check_made(F("x") | H("x", "y"), "greater", (F("x"), H("x", "y")))
        self.check_made(X & X, "lesser", (X, X))

    def test_a_name_on_either_side(self):
        self.check_made(X & "y", "lesser", (X, Y))
        self.check_made("y" & X, "lesser", (Y, X))
        self.check_made(X | "y", "greater", (X, Y))
        self.check_made("y" | X, "greater", (Y, X))
        self.check_made("y" | F("x"), "greater", (Y, F("x")))

    def test_other_values_on_the_right(self):
        for value in no_parts() + [Traits(), Traits(Trait("up", F)), "if"]:
            self.check_error(InvalidExpr, "part", lambda one, two: one & two, X, value)
            self.check_error(InvalidExpr, "part", lambda one, two: one | two, F("x"), value)

    def test_other_values_on_the_left(self):
        for value in no_parts() + ["if"]:
            if not isinstance(value, Traits):
                self.check_error(InvalidExpr, "part", lambda one, two: one & two, value, X)
                self.check_error(InvalidExpr, "part", lambda one, two: one | two, value, F("x"))

    def test_as_python_binds_them(self):
        self.assertEqual(str(X | Y & Z), "greater(x, lesser(y, z))")
        self.assertEqual(str((X | Y) & Z), "lesser(greater(x, y), z)")
        self.assertEqual(str(X & "y" & "z"), "lesser(lesser(x, y), z)")

    def test_operands_stay(self):
        one, other = F("x"), X & "y"
        for _ in range(2):
            self.check_equal(one | other, F("x") | (X & Y))
            self.check_equal(one & other, F("x") & (X & Y))
        self.assertEqual((str(one), str(other)), ("f(x)", "lesser(x, y)"))
        kept = one
        one |= other
        one &= "z"
        self.assertEqual((str(one), str(kept)), ("lesser(greater(f(x), lesser(x, y)), z)", "f(x)"))


class Looked(Case):

    def test_names_each_once_ascending(self):
        expr = K("z", H("y", "z"), "ab") | (F("y") & "x")
        self.assertEqual(expr.names, ("ab", "x", "y", "z"))
        self.assertEqual((X & X).names, ("x",))
        self.assertEqual(F("y").names, ("y",))
        self.assertEqual((named("b") & "aa" & "ab" & "a").names, ("a", "aa", "ab", "b"))

    def test_steps_each_once_by_name_then_by_ways(self):
        expr = K("z", H("y", "z"), "ab") | (F("y") & G(F("x")))
        self.assertEqual(expr.steps, (F, G, H, K))
        ways = ["?", "-", "+", "?"]
        expr = named("x")
        for way in ways:
            expr = Step("f", way)(expr) & Step("e", way)("y")
        expr = Step("f", "-?")(expr, "x")
        self.assertEqual([str(step) for step in expr.steps], ["e +", "e -", "e ?", "f +", "f -", "f -?", "f ?"])

    def test_the_name_of_a_step_is_no_name(self):
        self.assertEqual((F("f").names, F("f").steps, F("x").names), (("f",), (F,), ("x",)))

    def test_they_are_tuples(self):
        for expr in some_exprs():
            self.assertEqual([type(expr.parts), type(expr.names), type(expr.steps)], [tuple] * 3)

    def test_len_counts_all_parts_as_often_as_they_stand(self):
        for expr, count in ((X, 1), (F("x"), 2), (F(F("x")), 3), (H("x", "x"), 3), (K("x", "y", "z"), 4),
                            (X & X, 3), (X | F("y"), 4), (H(F("x"), F("x")), 5),
                            (K(X & Y, F(G("x")), H("x", "y")) | "x", 12)):
            self.assertEqual(len(expr), count, str(expr))
            self.assertTrue(expr)

    def test_str(self):
        for expr, text in ((X, "x"), (F("x"), "f(x)"), (H("x", G("y")), "h(x, g(y))"), (X & Y, "lesser(x, y)"),
                           (X | F("x"), "greater(x, f(x))"), (K("x", "y", "z"), "k(x, y, z)"), (F("f"), "f(f)"),
                           (K(X & Y, F(G("x")), H("x", "y")) | "x",
                            "greater(k(lesser(x, y), f(g(x)), h(x, y)), x)")):
            self.assertEqual(str(expr), text)


class Equal(Case):

    def test_equal_expressions(self):
        self.check_equal(F("x") & "y", F(X) & Y)
        self.check_equal("y" | F("x"), Y | Step("f", "+")("x"))
        self.check_equal(K("x", F("y"), "z"), K(X, F(Y), Z))

    def test_unlike_expressions(self):
        self.check_all_unlike([X, Y, F("x"), F("y"), G("x"), Step("f", "-")("x"), X & Y, Y & X, X | Y, Y | X, X & X,
                               H("x", "y"), H("y", "x"), Step("f", "++")("x", "y"), F(F("x")), named("f"),
                               K("x", "y", "z"), (X & Y) & Z, X & (Y & Z), F(X & Y), F(X | Y)])

    def test_unlike_deep_within(self):
        self.check_unlike(K("x", F(G("x")), "y"), K("x", F(G("y")), "y"))
        self.check_unlike(F(F(F("x"))), F(F(Step("f", "-")("x"))))

    def test_nothing_else_is_equal(self):
        for value in anything():
            if not isinstance(value, Expr):
                self.check_unlike(X, value)
                self.check_unlike(F("x"), value)
                self.check_unlike(X & Y, value)
        self.check_unlike(X, "x")


if __name__ == "__main__":
    unittest.main()
