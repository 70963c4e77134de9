"""Points [1] to [3]: what holds for everything that is written."""

import unittest

from knownways.errors import NoRow
from knownways.exprreader import read_expr
from knownways.exprs import named
from knownways.programs import Draft, Program
from knownways.rows import If, Lower, Put, Raise, Refuse, Row, Still
from knownways.steps import Chain, Step
from knownways.traits import Trait, Traits
from knownways.words import is_integer, is_name
from tests.helpers import F, G, H, K, Case, anything, no_names, some_rows


class Words(Case):

    def test_names(self):
        for value in ("a", "z", "ab", "xyz", "abcd", "zzzz", "ifs", "fi", "els", "ends", "elif"):
            self.assertIs(is_name(value), True)
        for value in no_names():
            self.assertIs(is_name(value), False, value)

    def test_integers(self):
        for value in (0, 1, -1, 10 ** 50, -10 ** 50):
            self.assertIs(is_integer(value), True)
        for value in anything():
            if value.__class__ is not int:
                self.assertIs(is_integer(value), False, value)


class Unchanged(Case):

    def everything(self):
        """Objects of all kinds, and what is seen of them from outside."""
        put = Put("x", H(F("y"), "z"))
        things = [F, Chain(F, G), Trait("up", F), Traits(Trait("up", F), Trait("mean", Step("m", "++"))), H("x", F("y")),
                  named("x") & "y", put, Program([put, If("x", "y", [put], [Refuse("no")])]), *some_rows()]
        seen = [self.seen(thing) for thing in things]
        return things, seen

    def seen(self, thing):
        return str(thing), [(name, repr(worth)) for name, worth in sorted(vars(thing).items())]

    def test_no_call_changes_an_object(self):
        things, seen = self.everything()
        step, chain, trait, traits, expr, _, row, program = things[:8]
        for _ in range(2):
            made = [step("x"), step * chain, chain * step, step ** 3, chain ** 2, chain(expr), step(expr), expr & expr,
                    expr | "x", "x" & expr, traits | traits, traits - traits, traits & Traits(), traits ^ traits,
                    Traits(trait), Put("x", expr), If(expr, expr, [row], [row]), program + program, 2 * program,
                    program * 3, Program([row, row]), read_expr(str(expr), [F, H]), len(expr), program[1],
                    trait in traits, traits.is_part_of(traits), expr == step, str(program)]
            draft = Draft()
            draft.add(row)
            draft["x"] = expr
            self.assertEqual(len(made), 28)
            self.check_error(NoRow, 99, lambda told, at: told[at], program, 99)
            self.assertEqual([self.seen(thing) for thing in things], seen)

    def test_the_same_call_gives_an_equal_result(self):
        first, _ = self.everything()
        again, _ = self.everything()
        for one, other in zip(first, again):
            self.check_equal(one, other)

    def test_attributes_are_kept_apart(self):
        rows = [Put("x", "y")]
        choice, other = If("x", "y", rows, rows), If("x", "y", rows)
        program = Program(rows)
        rows[0] = Refuse("no")
        rows.append(Refuse("no"))
        for kept in (choice.rows, choice.others, other.rows, program.rows):
            self.assertEqual(kept, (Put("x", "y"),))

    def test_a_list_or_a_tuple(self):
        rows = [Put("x", "y"), Refuse("no")]
        self.check_equal(Program(rows), Program(tuple(rows)))
        self.check_equal(If("x", "y", rows, tuple(rows)), If("x", "y", tuple(rows), rows))
        self.check_equal(Still([Raise("x", F("y"))]), Still((Raise("x", F("y")),)))
        self.check_equal(read_expr("f(x)", [F, G]), read_expr("f(x)", (F, G)))

    def test_objects_of_unlike_classes_are_unlike(self):
        self.check_all_unlike([F, Chain(F), Trait("up", F), Traits(Trait("up", F)), F("x"), named("f"), Put("f", "x"),
                               Raise("f", "x"), Lower("f", "x"), Program([Put("f", "x")]), Refuse("f"), Program(),
                               Chain(), Traits(), (), [], "f", 0, None])


class BeyondTheLimits(Case):

    def test_there_is_no_error(self):
        expr = named("x")
        for _ in range(20):
            expr = H(expr, "y")
        self.assertEqual((len(expr), str(expr).count("h(")), (41, 20))
        row = Put("x", K(expr, expr, "z"))
        for _ in range(6):
            row = If("x", "y", [row])
        program = Program([row] * 5)
        self.assertEqual((len(program), program.weight), (35, 205))
        self.assertIsInstance(row, Row)
        self.assertEqual((len(program * 6), len(F ** 12), len(Chain(F, G) ** 12)), (210, 12, 24))
        told = [Trait("up", Step(name, "+")) for name in "abcdefghijklmnop"]
        self.assertEqual(len(Traits(*told)), 16)


if __name__ == "__main__":
    unittest.main()
