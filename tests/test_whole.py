"""What holds over the whole program: equal calls, other names, and results that are passed on."""

import unittest

from knownways.claims import Alike, Always, NeverAbove
from knownways.comparisons import Comparison
from knownways.deciding import breach, holds
from knownways.desk import Desk
from knownways.exprreader import read_expr
from knownways.needed import greatest_failing, least_traits
from knownways.orders import best_orders, compare_chains
from knownways.programs import Draft, Program
from knownways.reader import read
from knownways.rows import Raise, Still
from knownways.running import run
from knownways.settling import least_rows, rounds, settle_alike
from knownways.steps import Chain, Step
from knownways.traits import Trait, Traits
from knownways.trees import tree, tree_holds
from knownways.treetexts import read_tree, show_tree
from tests.claiming import POOL, Claiming, fails_in
from tests.helpers import Case
from tests.test_deciding import F, G, always, traits
from tests.treechecker import is_right

# Other names for all names and steps, in another order.
NAMES = {"x": "q", "y": "end" + "s", "z": "a"}
STEPS = {"f": "zz", "g": "x", "d": "a", "q": "y", "m": "lea", "h": "f", "n": "b", "u": "c", "t": "k", "a": "g", "b": "m"}


class Renaming:
    """Everything once more, with other names."""

    def step(self, step):
        return Step(STEPS[step.name], step.ways)

    def expr(self, expr):
        if expr.kind == "name":
            return read_expr(NAMES[expr.word], [])
        parts = [self.expr(part) for part in expr.parts]
        if expr.kind == "step":
            return self.step(expr.step)(*parts)
        return parts[0] & parts[1] if expr.kind == "lesser" else parts[0] | parts[1]

    def comparison(self, said):
        return Comparison(self.expr(said.left), said.sign, self.expr(said.right))

    def row(self, row):
        kind = row.__class__
        if row.kind == "refuse":
            return row
        if row.kind == "if":
            return kind(self.expr(row.left), self.expr(row.right), *[[self.row(one) for one in rows] for rows in (row.rows, row.others)])
        if row.kind == "still":
            return kind([self.row(one) for one in row.rows])
        return kind(NAMES[row.name], self.expr(row.expr))

    def claim(self, claim):
        supposed = [self.comparison(said) for said in claim.supposed]
        p = Program([self.row(row) for row in claim.p.rows])
        kind = claim.__class__
        if claim.kind in ("alike", "above"):
            q = Program([self.row(row) for row in claim.q.rows])
            names = claim.wanted if claim.kind == "alike" else [claim.name]
            return kind(p, q, *[NAMES[name] for name in names], supposed=supposed)
        if claim.kind in ("rises", "falls"):
            return kind(p, NAMES[claim.out], NAMES[claim.into], supposed=supposed)
        if claim.kind == "always":
            return kind(p, self.comparison(claim.comparison), supposed=supposed)
        if claim.kind == "taken":
            return kind(p, claim.at, claim.side, supposed=supposed)
        return kind(p, *claim.words, supposed=supposed)

    def traits(self, told):
        return Traits(*[Trait(trait.word, *[self.step(step) for step in trait.steps]) for trait in told.entries])


class OtherNames(Case):

    def test_no_answer_depends_on_names(self):
        renaming = Renaming()
        yes = 0
        for seed in range(200):
            making = Claiming(seed, names=("x", "y", "z"), weight=6)
            claim = making.claim()
            told = making.traits(claim)
            other, again = renaming.claim(claim), renaming.traits(told)
            self.assertEqual((claim.weight, len(claim.names), len(claim.steps)), (other.weight, len(other.names), len(other.steps)))
            self.assertIs(holds(claim, told), holds(other, again))
            one, two = breach(claim, told), breach(other, again)
            if one is None:
                self.assertIsNone(two)
                self.assertTrue(tree_holds(other, again, tree(other, again)))
                yes += 1
            else:
                self.assertEqual(one.world.size, two.world.size)
                self.assertTrue(other.fails(two.world, two.start, two.other))
                # The very breach, with other names, is one of the other claim.
                world = one.world.__class__(one.world.size, [(renaming.step(step), one.world[step]) for step in one.world.steps])
                self.assertTrue(world.keeps(again))
                self.assertTrue(other.fails(world, {NAMES[name]: value for name, value in one.start.items()}, one.other))
        self.assertGreater(yes, 40)

    def test_needed_traits(self):
        renaming = Renaming()
        for seed in range(40):
            making = Claiming(seed, pool=[F, G], names=("x", "y"), weight=3)
            making.steps = making.pool
            claim = Always(Program(), Comparison(making.expr(), "<=", making.expr()))
            told = making.traits(claim, ["up", "down", "below", "settled"], 4, others=False)
            for call in (least_traits, greatest_failing):
                one, two = call(claim, told), call(renaming.claim(claim), renaming.traits(told))
                self.assertEqual({str(renaming.traits(entry)) for entry in one}, {str(entry) for entry in two})

    def test_settling_and_orders(self):
        h, k = Step("h", "+"), Step("a", "+")
        for told, other in ((traits("below f g"), Traits(Trait("below", h, k))), (traits("up f"), Traits(Trait("up", h))), (None, None)):
            rows, again = [Raise("x", F("x")), Raise("x", G("x"))], [Raise("q", h("q")), Raise("q", k("q"))]
            self.assertEqual(least_rows(rows, told), least_rows(again, other))
            self.assertEqual(settle_alike(rows, rows[:1], told), settle_alike(again, again[:1], other))
            self.assertEqual(compare_chains(Chain(F, G), Chain(G), told), compare_chains(Chain(h, k), Chain(k), other))
            self.assertEqual(len(best_orders([F, G], told)), len(best_orders([k, h], other)))


def calls():
    """Many calls of all kinds, and what they return, in a form that may be compared."""
    found = []
    for seed in range(25):
        making = Claiming(seed, names=("x", "y"), weight=5)
        claim = making.claim()
        told = making.traits(claim, most=3)
        found.append(lambda claim=claim, told=told: holds(claim, told))
        found.append(lambda claim=claim, told=told: tree(claim, told))
        found.append(lambda claim=claim, told=told: seen(breach(claim, told)))
        found.append(lambda claim=claim, told=told: least_traits(claim, told))
        found.append(lambda claim=claim, told=told: greatest_failing(claim, told))
        found.append(lambda claim=claim, told=told: (str(claim), str(told), claim.weight, claim.names))
    rows = [Raise("x", F("y")), Raise("y", G("x"))]
    found += [lambda: settle_alike(rows, rows[:1]), lambda: least_rows(rows), lambda: rounds(rows),
              lambda: best_orders([F, G], traits("below f g")), lambda: compare_chains(Chain(F, G), Chain(G), traits("up f"))]
    return found


def seen(found):
    return None if found is None else (found.world.size, found.world.tables, found.start, found.other)


class EqualCalls(Case):

    def test_whatever_calls_are_made_in_between(self):
        listed = calls()
        first = [call() for call in listed]
        self.assertEqual([call() for call in listed], first)
        self.assertEqual([call() for call in listed[::-1]], first[::-1])
        self.assertEqual([call() for call in calls()], first)

    def test_what_is_returned_may_be_changed(self):
        claim = NeverAbove(Program(), Program([Raise("x", F("y"))]), "y")
        claim = Always(claim.q, Comparison("x", "<", "y"))
        one = breach(claim)
        kept = dict(one.start)
        one.start.clear()
        self.assertEqual(breach(claim).start, kept)
        end = run(claim.p, breach(claim).world, kept)
        held = dict(end.held)
        end.held["x"] = 99
        self.assertEqual(run(claim.p, breach(claim).world, kept).held, held)


class PassedOn(Case):

    def test_breaches(self):
        claim = always("f(x) <= f(f(x))", "y <= x")
        found = breach(claim, traits("settled g"))
        self.assertTrue(fails_in(claim, found.world))
        self.assertTrue(claim.fails(found.world, found.start, found.other))
        self.assertEqual(claim.comparison.holds(found.world, found.start), False)
        end = run(Program([Still([Raise("x", F("x"))])]), found.world, found.start)
        self.assertIs(claim.fails(found.world, end.held), claim.fails(found.world, dict(end.held)))
        self.assertEqual(found.world, found.world.__class__(found.world.size, [(step, found.world[step]) for step in found.world.steps]))

    def test_trees(self):
        for seed in range(60):
            making = Claiming(seed, names=("x", "y"), weight=6)
            claim = making.claim()
            told = making.traits(claim)
            shown = tree(claim, told)
            if shown is not None:
                again = read_tree(show_tree(shown))
                self.assertIs(tree_holds(claim, told, again), True)
                self.assertTrue(is_right(claim, told, again))

    def test_texts(self):
        for seed in range(60):
            making = Claiming(seed, weight=8)
            claim = making.claim()
            again = read(str(claim.p), claim.steps or POOL)
            self.check_equal(again, claim.p)
            made = Alike(claim.p, again, *claim.names, supposed=claim.supposed)
            self.assertTrue(holds(made), str(made))

    def test_traits(self):
        claim = always("x <= f(x)")
        told = traits("up f", "up g", "below g f")
        for one in least_traits(claim, told):
            self.assertTrue(holds(claim, one | told) and holds(claim, one) and one.is_part_of(told))
            self.assertEqual(least_traits(claim, one), (one,))
        for one in greatest_failing(claim, told):
            self.assertEqual(greatest_failing(claim, one), (one,))
        self.assertTrue(holds(claim, Desk(least_traits(claim, told)[0]).traits))

    def test_chains_and_drafts(self):
        best = best_orders([F, G], traits("up f", "down f"))
        self.assertEqual(compare_chains(best[0], best[1], traits("up f", "down f")), "==")
        draft = Draft()
        draft["x"] = best[0](draft["y"])
        draft["y"] |= best[1]("x")
        claim = Always(draft.program(), Comparison("x", "<=", F(G("x"))))
        draft["z"] = "x"
        self.assertEqual((claim.weight, len(draft)), (6, 3))
        self.assertTrue(holds(claim, traits("up f", "up g")))
        desk = Desk(traits("up f", "up g"))
        for said in claim.under(Comparison("x", "<", "y")).supposed:
            desk.suppose(said)
        self.assertTrue(desk.holds(claim) and desk.supposed == (Comparison("x", "<", "y"),))


if __name__ == "__main__":
    unittest.main()
