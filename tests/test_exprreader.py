"""Point [10]: reading the texts of expressions."""

import string
import unittest
from itertools import product

from knownways.errors import InvalidText
from knownways.exprreader import read_expr
from knownways.exprs import Expr, named
from knownways.steps import Step
from tests.helpers import F, G, H, K, Case, texts_that_are_no_names

STEPS = [F, G, H, K]


def deeper(exprs):
    """Every expression that is made of these by one more step, lesser or greater."""
    found = [step(one) for step in (F, G) for one in exprs]
    for one, other in product(exprs, exprs):
        found += [H(one, other), one & other, one | other]
    found += [K(one, other, third) for one, other, third in product(exprs[:3], exprs[:3], exprs[:3])]
    return found


class Read(Case):

    def test_all_that_is_written_is_read(self):
        flat = [named("x"), named("y"), named("f")]
        exprs = flat + deeper(flat)
        for expr in exprs + deeper(exprs[:12]):
            self.check_equal(read_expr(str(expr), STEPS), expr)
            self.check_equal(read_expr(str(expr), tuple(STEPS)), expr)

    def test_the_steps_are_those_passed(self):
        for ways in "+-?":
            step = Step("f", ways)
            self.assertEqual(read_expr("f(x)", [step]).step, step)
            self.assertEqual(read_expr("f(f(x))", [step, Step("f", ways)]).steps, (step,))

    def test_a_name_and_a_step_may_be_called_alike(self):
        self.check_equal(read_expr("f(f)", STEPS), F("f"))
        self.check_equal(read_expr("f", STEPS), named("f"))
        self.check_equal(read_expr("h(h, lesser(f, f(k)))", STEPS), H("h", named("f") & F("k")))

    def test_names_and_steps_of_every_length(self):
        for name in ("z", "zy", "abc", "elif", "leas", "grea"):
            self.check_equal(read_expr(name, []), named(name))
            self.check_equal(read_expr(name + "(" + name + ")", [Step(name, "-")]), Step(name, "-")(name))

    def test_no_steps(self):
        self.check_equal(read_expr("lesser(x, greater(y, x))", []), named("x") & (named("y") | "x"))
        self.check_error(InvalidText, 0, read_expr, "f(x)", [])
        self.check_error(InvalidText, 0, read_expr, "f(x)", ())

    def test_forty_parentheses(self):
        text = "f(" * 40 + "x" + ")" * 40
        self.assertEqual(str(read_expr(text, [F])), text)
        self.assertEqual(len(read_expr(text, [F])), 41)
        self.check_error(InvalidText, 0, read_expr, text[:-1], [F])
        self.check_error(InvalidText, 0, read_expr, text + ")", [F])
        self.check_error(InvalidText, 0, read_expr, "f(" * 40, [F])

    def test_arguments_by_name(self):
        self.check_equal(read_expr(text="f(x)", steps=[F]), F("x"))
        self.check_equal(read_expr(steps=(F,), text="f(x)"), F("x"))
        self.check_error(InvalidText, 0, read_expr, steps=[F], text="g(x)")

    def test_the_same_call_again(self):
        steps = [F, H]
        first = read_expr("h(x, f(y))", steps)
        self.check_equal(first, read_expr("h(x, f(y))", steps))
        self.assertEqual(steps, [F, H])
        steps.clear()
        self.check_equal(first, H("x", F("y")))

    def test_defined_here(self):
        self.assertEqual(read_expr.__module__, "knownways.exprreader")


class Refused(Case):

    def test_not_of_this_form(self):
        for text in ["", " ", "\n", "()", "(x)", "x()", "f", "f()", "f(x", "f(x))", "f((x))", "f(x)y", "f(x) ", " f(x)",
                     "f (x)", "f( x)", "f(x )", "f(x, y)", "f(x, )", "f(, x)", "f(,)", "h(x)", "h(x,y)", "h(x,  y)",
                     "h(x , y)", "h(x, y, z)", "h(x, y,)", "h(x y)", "h(x, y", "h(x,", "h(x", "h(", "h(x; y)", "k(x, y)",
                     "k(x)", "k(x, y, z, x)", "e(x)", "ff(x)", "lesser", "greater", "lesser(x)", "greater(x)",
                     "lesser(x, y, z)", "greater(x, y, z)", "lesser()", "greater()", "lesser(x,y)", "greater(x,y)",
                     "Lesser(x, y)", "lesse(x, y)", "lessers(x, y)", "least(x, y)", "greate(x, y)", "min(x, y)",
                     "if(x)", "f(if)", "f(else)", "lesser(end, x)", "abcde", "f(abcde)", "abcde(x)", "f(x)\n", "\nf(x)",
                     "f(\nx)", "f[x]", "f(x]", "f(X)", "F(x)", "f(1)", "x & y", "x | y", "x <= y", "x'", "f(x')", "x,",
                     "x, y", ", x", "f,(x)", "f(x)(y)", "f(x)f(x)", "f(lesser)", "lesser(lesser, x)", "end(0, 3, x)",
                     ")", "(", "(((", ")))", ",", ", "]:
            if text != "f":
                self.check_error(InvalidText, 0, read_expr, text, STEPS)

    def test_no_names(self):
        for text in texts_that_are_no_names():
            if text != "f(x)":
                self.check_error(InvalidText, 0, read_expr, text, STEPS)
                self.check_error(InvalidText, 0, read_expr, "f(" + text + ")", STEPS)
                self.check_error(InvalidText, 0, read_expr, text + "(x)", STEPS)

    def test_one_character_more_or_less_or_other(self):
        characters = string.ascii_lowercase[:8] + "xyz" + " ,()<=|&'0AZ\n"
        for text in ("x", "f(x)", "h(x, g(y))", "lesser(x, f(y))", "greater(h(x, y), k(x, y, z))"):
            changed = [text[:at] + text[at + 1:] for at in range(len(text))]
            for at in range(len(text) + 1):
                changed += [text[:at] + character + text[at:] for character in characters]
                changed += [text[:at] + character + text[at + 1:] for character in characters]
            for other in changed:
                self.check_exact(other)

    def check_exact(self, text):
        """What is read at all is written as the very same text."""
        try:
            expr = read_expr(text, STEPS)
        except InvalidText as error:
            self.assertEqual(error.at, 0)
        else:
            self.assertIsInstance(expr, Expr)
            self.assertEqual(str(expr), text)
            for step in expr.steps:
                self.assertIn(step, STEPS)


if __name__ == "__main__":
    unittest.main()
