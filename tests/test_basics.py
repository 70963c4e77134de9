"""Points [1] to [3]: what holds for everything that is written."""

import unittest

from knownways.claims import Alike, Always, NeverAbove, NeverRefuses, NeverTaken, Rises
from knownways.comparisons import Comparison
from knownways.deciding import breach, holds
from knownways.desk import Desk
from knownways.errors import InvalidClaim, InvalidStart, InvalidText, NoName, NoRow, NoStep
from knownways.exprreader import read_expr
from knownways.exprs import named
from knownways.needed import greatest_failing, least_traits
from knownways.orders import best_orders, compare_chains
from knownways.programs import Draft, Program
from knownways.reader import read
from knownways.rows import If, Lower, Put, Raise, Refuse, Row, Still
from knownways.running import run
from knownways.settling import least_rows, rounds, settle_alike
from knownways.steps import Chain, Step
from knownways.traits import Trait, Traits
from knownways.trees import tree, tree_holds
from knownways.treetexts import read_tree, show_tree
from knownways.words import is_integer, is_name, is_value
from knownways.worlds import World, worlds
from tests.helpers import F, G, H, K, Case, anything, no_names, some_rows


class Words(Case):

    def test_names(self):
        for value in ("a", "z", "ab", "xyz", "abcd", "zzzz", "ifs", "fi", "els", "ends", "elif"):
            self.assertIs(is_name(value), True)
        for value in no_names():
            self.assertIs(is_name(value), False, value)

    def test_integers(self):
        for value in (0, 1, -1, 10 ** 50, -10 ** 50):
            self.assertIs(is_integer(value), True)
        for value in anything():
            if value.__class__ is not int:
                self.assertIs(is_integer(value), False, value)


    def test_values(self):
        for size in (1, 2, 3, 16):
            self.assertEqual([at for at in range(-20, 20) if is_value(at, size)], list(range(size)))
            for value in anything() + [10 ** 50, -10 ** 50, 0.0]:
                if value.__class__ is not int or value not in range(size):
                    self.assertIs(is_value(value, size), False, value)


class Unchanged(Case):

    def everything(self):
        """Objects of all kinds, and what is seen of them from outside."""
        put = Put("x", H(F("y"), "z"))
        things = [F, Chain(F, G), Trait("up", F), Traits(Trait("up", F), Trait("mean", Step("m", "++"))), H("x", F("y")),
                  named("x") & "y", put, Program([put, If("x", "y", [put], [Refuse("no")])]),
                  World(2, [[F, [0, 1]], [H, [[0, 0], [1, 0]]]]), Comparison(F("x"), "<=", "y"),
                  run(Program([Refuse("no")]), World(1, []), {"x": 0}),
                  Always(Program([put]), Comparison("x", "<=", F("y")), supposed=[Comparison("z", "<", F("x"))]),
                  Rises(Program([put]), "x", "y"), breach(Rises(Program([put]), "x", "z")), *some_rows()]
        seen = [self.seen(thing) for thing in things]
        return things, seen

    def seen(self, thing):
        return str(thing), [(name, repr(worth)) for name, worth in sorted(vars(thing).items())]

    def test_no_call_changes_an_object(self):
        things, seen = self.everything()
        step, chain, trait, traits, expr, _, row, program, world, told, end, always, rises, found = things[:14]
        kept = Traits(trait)
        start = {"x": 0, "y": 1, "z": 1}
        for _ in range(2):
            made = [step("x"), step * chain, chain * step, step ** 3, chain ** 2, chain(expr), step(expr), expr & expr,
                    expr | "x", "x" & expr, traits | traits, traits - traits, traits & Traits(), traits ^ traits,
                    Traits(trait), Put("x", expr), If(expr, expr, [row], [row]), program + program, 2 * program,
                    program * 3, Program([row, row]), read_expr(str(expr), [F, H]), len(expr), program[1],
                    trait in traits, traits.is_part_of(traits), expr == step, str(program),
                    read(str(program), [F, H]), world[F], world.keeps(kept), world.value(step("x"), start),
                    run(program, world, start), list(worlds([F, G], 2, kept)), told.holds(world, start), str(told),
                    world == told, end == run(Program(), world, start), holds(always, kept), breach(always, traits),
                    tree(rises, traits), tree_holds(rises, None, ()), always.under(told), rises == always, str(always),
                    always.fails(world, start), rises.fails(found.world, found.start, found.other),
                    least_traits(always, kept), greatest_failing(rises, traits), best_orders([step], kept),
                    compare_chains(chain, chain, kept), settle_alike([Raise("x", step("x"))], [Raise("x", step("y"))], kept),
                    least_rows([Raise("x", step("x"))], kept), rounds([Raise("x", step("y"))]), self.at_a_desk(kept, told, always)]
            draft = Draft()
            draft.add(row)
            draft["x"] = expr
            self.assertEqual(len(made), 55)
            self.check_error(NoRow, 99, lambda rows, at: rows[at], program, 99)
            self.check_error(NoStep, "g", world.value, G("x"), start)
            self.check_error(NoName, "a", run, Program([Put("a", "a")]), world, start)
            self.check_error(InvalidStart, "q", told.holds, world, {**start, "q": None})
            self.check_error(InvalidText, 1, read, "x = y\nx", [F])
            self.check_error(InvalidClaim, "step", always.under, Comparison("x", "<", Step("f", "-")("x")))
            self.check_error(InvalidClaim, "comparison", always.under, told, None)
            self.check_error(InvalidStart, "y", rises.fails, world, start, 5)
            self.check_error(InvalidClaim, "step", holds, always, Traits(Trait("mean", Step("f", "++"))))
            self.assertEqual(list(start.items()), [("x", 0), ("y", 1), ("z", 1)])
            self.assertEqual([self.seen(thing) for thing in things], seen)

    def at_a_desk(self, traits, told, claim):
        desk = Desk(traits)
        desk.suppose(told)
        desk.traits = traits
        with desk.supposing(told):
            desk.take_back()
        return desk.is_sure(told), desk.compare(told.left, told.right), desk.holds(claim), desk.breach(claim)

    def test_the_same_call_gives_an_equal_result(self):
        first, _ = self.everything()
        again, _ = self.everything()
        for one, other in zip(first, again):
            if one.__class__.__name__ == "Breach":
                self.assertEqual((one.world, one.start, one.other), (other.world, other.start, other.other))
            else:
                self.check_equal(one, other)

    def test_attributes_are_kept_apart(self):
        rows = [Put("x", "y")]
        choice, other = If("x", "y", rows, rows), If("x", "y", rows)
        program = Program(rows)
        rows[0] = Refuse("no")
        rows.append(Refuse("no"))
        for kept in (choice.rows, choice.others, other.rows, program.rows):
            self.assertEqual(kept, (Put("x", "y"),))

    def test_a_list_or_a_tuple(self):
        rows = [Put("x", "y"), Refuse("no")]
        self.check_equal(Program(rows), Program(tuple(rows)))
        self.check_equal(If("x", "y", rows, tuple(rows)), If("x", "y", tuple(rows), rows))
        self.check_equal(Still([Raise("x", F("y"))]), Still((Raise("x", F("y")),)))
        self.check_equal(read_expr("f(x)", [F, G]), read_expr("f(x)", (F, G)))
        self.check_equal(read("x = f(x)", [F, G]), read("x = f(x)", (F, G)))
        self.check_equal(World(2, [[F, [0, 1]]]), World(2, ((F, (0, 1)),)))
        self.assertEqual([world[F] for world in worlds([F], 2)], [world[F] for world in worlds((F,), 2)])
        told = [Comparison("x", "<", "y"), Comparison("y", "<", "z")]
        self.check_equal(NeverRefuses(Program(), supposed=told), NeverRefuses(Program(), supposed=tuple(told)))
        rows = [Raise("x", F("x")), Raise("y", F("x"))]
        self.assertEqual(least_rows(rows), least_rows(tuple(rows)))
        self.assertIs(settle_alike(rows, tuple(rows)), settle_alike(tuple(rows), rows))
        self.assertEqual(rounds(rows[1:]), rounds(tuple(rows[1:])))
        self.assertEqual(best_orders([F]), best_orders((F,)))

    def test_objects_of_unlike_classes_are_unlike(self):
        self.check_all_unlike([F, Chain(F), Trait("up", F), Traits(Trait("up", F)), F("x"), named("f"), Put("f", "x"),
                               Raise("f", "x"), Lower("f", "x"), Program([Put("f", "x")]), Refuse("f"), Program(),
                               Chain(), Traits(), World(1, []), run(Program(), World(1, []), {}),
                               Comparison("f", "<", "x"), Always(Program(), Comparison("f", "<", "x")),
                               NeverRefuses(Program()), Alike(Program(), Program()), NeverAbove(Program(), Program(), "f"),
                               (), [], {}, "f", 0, None])


class BeyondTheLimits(Case):

    def test_there_is_no_error(self):
        expr = named("x")
        for _ in range(20):
            expr = H(expr, "y")
        self.assertEqual((len(expr), str(expr).count("h(")), (41, 20))
        row = Put("x", K(expr, expr, "z"))
        for _ in range(6):
            row = If("x", "y", [row])
        program = Program([row] * 5)
        self.assertEqual((len(program), program.weight), (35, 205))
        self.assertIsInstance(row, Row)
        self.assertEqual((len(program * 6), len(F ** 12), len(Chain(F, G) ** 12)), (210, 12, 24))
        told = [Trait("up", Step(name, "+")) for name in "abcdefghijklmnop"]
        self.assertEqual(len(Traits(*told)), 16)

    def test_there_is_no_error_in_worlds(self):
        step, expr = Step("k", "+++"), F("x")
        for _ in range(20):
            expr = F(expr)
        world = World(16, [(F, [*range(1, 16), 15]), (step, [[[0] * 16] * 16] * 16)])
        self.assertEqual(world.value(expr, {"x": 0}), 15)
        self.assertTrue(Comparison(expr, "==", step(expr, expr, "y") | F(expr)).holds(world, {"x": 1, "y": 2}))
        row = Put("x", F("x"))
        for _ in range(8):
            row = If("x", "y", [row], [row])
        end = run(Program([row] * 20), world, {"x": 0, "y": 9})
        self.assertEqual(end.held, {"x": 15, "y": 9})
        text = "\n".join(["if x <= y"] * 60 + ["x = y"] + ["end"] * 60)
        self.assertEqual(str(read(text, [])), text)
        self.assertEqual(len(list(worlds([F, G], 5, Traits(Trait("up", F), Trait("down", F))))), 126)

    def test_there_is_no_error_in_claims(self):
        expr = F("x")
        for _ in range(11):
            expr = F(expr)
        rising = Comparison("x", "<", F("x"))
        self.assertEqual(breach(NeverRefuses(Program([Refuse("no")]), supposed=[rising, Comparison("x", "<", expr)])).world.size, 2)
        self.assertTrue(holds(Always(Program(), Comparison("x", "<=", F("x")), supposed=[Comparison("x", "<=", expr)])))
        row = If("x", "y", [])
        for _ in range(8):
            row = If("x", "y", [row], [Put("a", "b"), Put("c", "d")])
        claim = NeverTaken(Program([Put("e", "g"), row] * 6), 1, True)
        self.assertEqual((len(claim.names), breach(claim).world.size), (8, 1))
        shown = tree(NeverRefuses(claim.p))
        self.assertTrue(tree_holds(NeverRefuses(claim.p), None, shown))
        self.assertEqual(read_tree(show_tree(shown)), shown)


if __name__ == "__main__":
    unittest.main()
