"""Points [25] to [28]: whether claims hold, and worlds of the fewest values in which they fail."""

import unittest
from itertools import permutations

from knownways.claims import Alike, Always, Falls, NeverAbove, NeverRefuses, NeverTaken, Rises
from knownways.comparisons import Comparison
from knownways.deciding import Breach, breach, holds
from knownways.errors import InvalidClaim
from knownways.exprs import named
from knownways.programs import Program
from knownways.reader import read
from knownways.steps import Step
from knownways.traits import Trait, Traits
from knownways.trees import tree, tree_holds
from tests.claiming import POOL, Claiming, fails_in, least_failing
from tests.helpers import Case
from tests.treechecker import is_right

F, G, E, D, Q = Step("f", "+"), Step("g", "+"), Step("e", "+"), Step("d", "-"), Step("q", "?")
M, N, H, U, V, T = Step("m", "++"), Step("n", "--"), Step("h", "+-"), Step("u", "??"), Step("v", "???"), Step("t", "+++")
STEPS = [F, G, E, D, Q, M, N, H, U, V, T]
NOTHING = Program()
NEVER = Comparison("x", "<", "x")


def program(*lines):
    return read("\n".join(lines), STEPS)


def said(text):
    """The comparison of a text."""
    for sign in (" <= ", " < ", " == "):
        if sign in text:
            left, right = [read("x = " + side, STEPS)[0].expr for side in text.split(sign)]
            return Comparison(left, sign.strip(), right)


def always(text, *supposed, p=NOTHING):
    return Always(p, said(text), supposed=[said(one) for one in supposed])


def impossible(*supposed):
    """The claim that holds exactly if the suppositions never hold together."""
    return Always(NOTHING, NEVER, supposed=[said(one) for one in supposed])


def traits(*texts):
    steps = {step.name: step for step in STEPS}
    made = []
    for text in texts:
        word, *names = text.split(" ")
        made.append(Trait(word, *[steps[name] for name in names]))
    return Traits(*made)


class Decided(Case):
    """Checks of what is decided about one claim."""

    def check_decided(self, claim, told=None):
        """All that [26], [27], [28] and [31] say of one claim, as far as small worlds show; the breach."""
        found, shown = breach(claim, told), tree(claim, told)
        self.assertIs(holds(claim, told), found is None, str(claim))
        self.assertIs(shown is None, found is not None, str(claim))
        if found is None:
            self.assertTrue(tree_holds(claim, told, shown), (str(claim), shown))
            self.assertTrue(is_right(claim, told, shown), (str(claim), shown))
        else:
            self.check_breach(claim, told, found)
        return found

    def check_breach(self, claim, told, found):
        kept = Traits() if told is None else told
        self.assertTrue(found.world.keeps(kept), str(claim))
        self.assertTrue(claim.fails(found.world, found.start, found.other), (str(claim), found.world.tables))
        self.assertEqual(tuple(sorted(found.start)), claim.names)
        self.assertIs(found.other is None, not isinstance(claim, (Rises, Falls)))
        names = {step.name: step for step in (*claim.steps, *kept.steps)}
        self.assertEqual(found.world.steps, tuple(names[name] for name in sorted(names)))

    def check_against_worlds(self, claim, told, most=20000):
        """The breach is just as large as all worlds say, as far as these are not too many."""
        found = self.check_decided(claim, told)
        steps = {step.name: step for step in (*claim.steps, *told.steps)}.values()
        size = 0
        while size < 5 and tables_of(steps, size + 1) <= most:
            size += 1
        least = least_failing(claim, told, size)
        if found is None or found.world.size > size:
            self.assertIsNone(least, (str(claim), str(told)))
        else:
            self.assertEqual(found.world.size, least, (str(claim), str(told)))
        return found


def tables_of(steps, size):
    """How many fillings of the tables there are, whatever ways they go."""
    count = 1
    for step in steps:
        count *= size ** size ** len(step)
    return count


class AgainstAllSmallWorlds(Decided):

    def check_made(self, seeds, pool, words, most=3, **told):
        sizes = []
        for seed in seeds:
            making = Claiming(seed, pool=pool, **told)
            claim = making.claim()
            found = self.check_against_worlds(claim, making.traits(claim, words, most, others=False), 4000)
            sizes.append(0 if found is None else found.world.size)
        return sizes

    def test_no_traits(self):
        sizes = self.check_made(range(110), POOL, ["up"], 0)
        self.assertTrue(min(sizes.count(0), sizes.count(1), sizes.count(2)) > 20)

    def test_ups_downs_and_settled(self):
        sizes = self.check_made(range(200), [F, G], ["up", "down", "settled", "below"], 4, names=("x", "y"), weight=6)
        self.assertTrue(sizes.count(0) > 40 and max(sizes) > 2)

    def test_every_order_of_settled_results(self):
        for told in ("settled f", "settled f,up f", "settled f,down f", "settled f,up f,down f"):
            sizes = []
            for chosen in [*permutations(("x", "y", "f(x)", "f(y)")), *permutations(("x", "y", "f(x)", "f(y)"), 3)]:
                claim = impossible(*[f"{low} < {high}" for low, high in zip(chosen, chosen[1:])])
                found = self.check_decided(claim, traits(*told.split(",")))
                sizes.append(None if found is None else found.world.size)
                self.assertEqual(least_failing(claim, traits(*told.split(",")), 4), sizes[-1], (str(claim), told))
            self.assertEqual(max([size or 0 for size in sizes]), 0 if "up f,down" in told else 4)

    def check_suppositions(self, told, step, seeds, most=5):
        """Suppositions of one step's results, in worlds of many values."""
        sizes = []
        for seed in seeds:
            making = Claiming(seed)
            chain = [named("x"), named("y"), step("x"), step("y"), step(step("x")), step(step("y"))]
            chosen = making.chance.sample(chain, 4)
            supposed = [Comparison(low, making.one_of(["<", "<", "<="]), high) for low, high in zip(chosen, chosen[1:])]
            claim = Always(NOTHING, NEVER, supposed=supposed)
            found = self.check_decided(claim, told)
            least = least_failing(claim, told, most)
            sizes.append(0 if found is None else found.world.size)
            expected = sizes[-1] if 0 < sizes[-1] <= most else None
            self.assertEqual(least, expected, (str(claim), str(told)))
        return sizes

    def test_many_values_of_each_kind_of_step(self):
        seen = {}
        for told in ("settled f", "settled f,up f", "settled f,down f", "settled f,up f,down f", "up f", "down f", "down f,up f",
                     "below f g", "below g f"):
            seen[told] = self.check_suppositions(traits(*told.split(",")), F, range(50), 3 if "g" in told else 5)
        for told in ("settled f", "settled f,up f", "settled f,down f", "up f", "down f"):
            self.assertTrue(seen[told].count(0) > 5 and seen[told].count(3) > 3, (told, seen[told]))

    def test_many_values_of_partners(self):
        for low, high in (("f", "g"), ("g", "f")):
            sizes = self.check_suppositions(traits(f"back {low} {high}"), F, range(50), 3)
            self.assertTrue(sizes.count(3) > 3 and sizes.count(4) > 1, sizes)

    def test_backs(self):
        found = []
        for seed in range(120):
            making = Claiming(seed, pool=[F, G], names=("x", "y"), weight=6, loops=False)
            claim = making.claim()
            told = [traits("back f g"), traits("back g f"), traits("back f e")][seed % 3]
            if not set("fg") & {step.name for step in claim.steps}:
                continue
            found.append(self.check_against_worlds(claim, told, 4000))
        self.assertGreater(len([one for one in found if one is not None and one.world.size > 1]), 20)
        self.assertGreater(len([one for one in found if one is None]), 20)

    def test_means_and_alike(self):
        for seed, told in enumerate(["mean m", "alike m", "alike n", "alike u", "mean m,alike m"] * 8):
            making = Claiming(seed, pool=[{"n": N, "u": U}.get(told[-1], M)], names=("x", "y"), weight=4, loops=False)
            self.check_against_worlds(making.claim(), traits(*told.split(",")), 20000)

    def test_below(self):
        for seed, (pool, told) in enumerate([([F, G], "below f g"), ([M, Step("s", "++")], None), ([F], "below f e"),
                                             ([F, G], "below f e,below e g"), ([F, G], "below f e,down e"),
                                             ([F, G], "below e f,up e")] * 10):
            making = Claiming(seed, pool=pool, names=("x", "y"), weight=5)
            told = Traits(Trait("below", *pool)) if told is None else traits(*told.split(","))
            claim = making.claim()
            try:
                self.check_against_worlds(claim, told, 20000)
            except InvalidClaim:
                self.assertTrue(any(row.kind == "still" for row in claim.p.numbered))

    def test_loops(self):
        sizes = []
        for seed in range(150):
            making = Claiming(seed, pool=[F, G, M], names=("x", "y", "z")[:1 + seed % 3], weight=8)
            making.rows = lambda depth, making=making: [making.loop() if making.rising() else making.row()]
            claim = making.claim()
            told = making.traits(claim, ["up", "below"], 3, others=False)
            found = self.check_against_worlds(claim, told, 4000)
            sizes.append(0 if found is None else found.world.size)
        self.assertTrue(sizes.count(0) > 20 and sizes.count(2) > 20 and max(sizes) > 2)


class KnownAnswers(Decided):

    def check_holds(self, claim, *told):
        self.assertIsNone(self.check_decided(claim, traits(*told)), str(claim))

    def check_size(self, size, claim, *told):
        found = self.check_decided(claim, traits(*told))
        self.assertIsNotNone(found, str(claim))
        self.assertEqual(found.world.size, size, str(claim))

    def test_ways(self):
        self.check_holds(always("f(x) <= f(y)", "x <= y"))
        self.check_holds(always("d(y) <= d(x)", "x <= y"))
        self.check_holds(always("q(x) == q(y)", "x == y"))
        self.check_holds(always("h(x, y) <= h(y, x)", "x <= y"))
        self.check_holds(always("t(x, y, x) <= t(y, y, y)", "x <= y"))
        self.check_holds(always("v(x, y, x) == v(y, x, y)", "x == y"))
        self.check_size(2, always("d(x) <= d(y)", "x <= y"))
        self.check_size(2, always("q(x) <= q(y)", "x <= y"))
        self.check_size(2, always("h(x, x) <= h(y, y)", "x <= y"))
        self.check_size(2, always("f(x) < f(y)", "x < y"))
        self.check_holds(always("x < y", "f(x) < f(y)"))
        self.check_holds(always("lesser(x, y) < greater(x, y)", "u(x, y) < u(y, x)"))

    def test_the_overview(self):
        self.check_holds(always("x <= f(x)", "x <= f(f(x))"))
        self.check_holds(always("x <= f(f(x))", "x <= f(x)"))
        self.check_holds(always("x == f(x)", "x == f(f(f(x)))"))
        self.check_size(2, always("x <= d(x)", "x <= d(d(x))"))

    def test_traits(self):
        for claim, *told in ((always("x <= f(x)"), "up f"), (always("f(x) <= x"), "down f"), (always("f(f(x)) == f(x)"), "settled f"),
                             (always("m(x, x) == x"), "mean m"), (always("m(x, y) <= greater(x, y)"), "mean m"),
                             (always("m(x, y) == m(y, x)"), "alike m"), (always("n(x, y) == n(y, x)"), "alike n"),
                             (always("u(x, y) == u(y, x)"), "alike u"), (always("f(x) <= g(x)"), "below f g"),
                             (always("x <= g(y)", "f(x) <= y"), "back f g"), (always("f(x) <= y", "x <= g(y)"), "back f g"),
                             (always("x <= g(f(x))"), "back f g"), (always("f(g(x)) <= x"), "back f g"),
                             (always("f(g(f(x))) == f(x)"), "back f g")):
            self.check_holds(claim, *told)
            self.assertFalse(holds(claim))
            self.assertFalse(holds(claim, Traits(Trait("up", Step("a", "+")))))

    def test_traits_that_follow(self):
        for claim, *told in ((always("f(x) <= e(x)"), "below f g", "below g e"), (always("f(x) <= x"), "below f g", "down g"),
                             (always("f(x) <= x"), "below f e", "below e g", "down g"), (always("x <= g(x)"), "below f g", "up f"),
                             (always("x <= g(x)"), "below f e", "below e g", "up f"),
                             (always("f(x) == g(x)"), "below f g", "below g f"), (always("x == f(x)"), "up f", "down f")):
            self.check_holds(claim, *told)
            for at in range(len(told)):
                self.assertFalse(holds(claim, traits(*told[:at], *told[at + 1:])), told)

    def test_steps_that_do_nothing(self):
        self.check_size(2, impossible("x < y", "y <= f(y)"), "up f", "down f", "settled f")
        self.check_size(3, impossible("x < y", "f(y) < z"), "up f", "down f", "settled f")
        self.check_size(3, impossible("x < y", "f(y) < z"), "up f", "down f")

    def test_traits_that_do_not_help(self):
        self.check_size(2, always("f(x) <= x"), "up f")
        self.check_size(2, always("f(f(x)) == x"), "settled f")
        self.check_size(2, always("m(x, y) <= x"), "mean m", "alike m")
        self.check_size(2, always("g(x) <= f(x)"), "below f g")
        self.check_size(3, always("f(x) <= g(x)"), "back f g")
        self.check_size(2, always("g(f(x)) <= x"), "back f g")
        self.check_size(2, always("f(x) <= x"), "down g")

    def test_the_ends_of_worlds(self):
        # Nothing is below the lowest value, so a lower partner gives it for itself, and it is no other one's.
        self.check_size(4, impossible("x < f(x)", "f(x) < f(y)"), "back f g")
        self.check_size(3, impossible("x < f(x)", "f(x) < f(y)"))
        self.check_size(1, always("f(x) < y"), "back f g")
        self.check_size(3, always("x <= f(x)", "x <= y", "g(x) < y"), "back f g")
        self.check_size(3, impossible("x < f(y)", "y <= f(x)"), "back f g")
        self.check_size(2, impossible("g(x) < y", "y <= g(y)"), "back f g")
        self.check_size(3, always("f(z) <= z", p=program("x &= y", "z = d(x)")), "back f g")
        self.check_size(3, always("z <= g(z)", p=program("x &= y", "z = d(x)")), "back f g")
        self.check_size(2, always("f(z) <= z", p=program("x &= y", "z = d(x)")))
        for test, row, goal in (("x <= f(x)", "z = d(x)", "f(z) <= z"), ("g(x) <= x", "z = d(x)", "z <= g(z)")):
            # What is worked out behind a comparison is not below the lowest value either, nor above the highest.
            self.check_size(4, always(goal, p=program("if " + test, "refuse no", "else", row, "end")), "back f g")
            self.check_size(3, always(goal, p=program("if " + test, "refuse no", "else", row, "end")))

    def test_one_value_will_do(self):
        self.check_size(1, impossible())
        self.check_size(1, always("f(x) < x"))
        self.check_size(1, NeverRefuses(program("refuse no")))
        self.check_size(1, Alike(program("refuse no"), program("refuse bad")))
        self.check_size(1, NeverTaken(program("if x <= x", "end"), 0, True))
        found = breach(NeverRefuses(program("refuse no")), traits("up f", "alike n"))
        self.assertEqual((found.start, found.world.size, found.world[F], found.world[N]), ({}, 1, (0,), ((0,),)))

    def test_many_values(self):
        self.check_size(4, impossible("x < y", "y < z", "z < a"))
        self.check_size(5, impossible("x < f(x)", "f(x) < f(f(x))", "f(f(x)) < f(f(f(x)))", "f(f(f(x))) < f(f(f(f(x))))"))
        self.check_size(5, impossible("f(f(f(x))) < f(f(f(f(x))))"))
        self.check_size(6, impossible("f(f(f(f(x)))) < f(f(f(f(f(x)))))"))
        self.check_size(8, impossible("x < y", "y < z", "z < a", "a < f(x)", "f(x) < f(y)", "f(y) < f(z)", "f(z) < f(a)"))
        self.check_size(9, impossible("x < y", "y < z", "z < a", "a < f(x)", "f(x) < g(x)", "g(x) < f(y)", "f(y) < g(y)",
                                      "g(y) < f(z)"), "below f g")
        self.check_size(3, impossible("u(x, y) < u(y, z)", "u(y, z) < u(z, x)"))
        self.check_size(2, impossible("d(d(x)) < x"))

    def test_loops_that_need_many_rounds(self):
        loop, twice = program("still", "x |= f(x)", "end"), program("x |= f(x)", "x |= f(x)")
        self.check_size(4, NeverAbove(loop, twice, "x"))
        thrice = twice + program("x |= f(x)")
        self.check_size(5, NeverAbove(loop, thrice, "x"))
        self.check_holds(NeverAbove(thrice, loop, "x"))
        self.check_holds(always("f(x) <= x", p=loop))
        self.check_size(2, always("f(x) == x", p=loop))
        ring, rows = program("still", "x |= f(y)", "y |= f(x)", "end"), program("x |= f(y)", "y |= f(x)")
        self.check_size(3, NeverAbove(ring, rows, "x"))
        self.check_size(4, NeverAbove(ring, rows, "y"))
        self.check_holds(Alike(ring, program("still", "y |= f(x)", "x |= f(y)", "end"), "x", "y"))

    def test_loops(self):
        one, other = program("still", "x |= f(x)", "end"), program("still", "x |= g(x)", "end")
        self.check_size(2, NeverAbove(one, other, "x"))
        self.check_holds(NeverAbove(one, other, "x"), "below f g")
        self.check_holds(NeverAbove(one, other, "x"), "below f e", "below e g")
        self.check_size(2, NeverAbove(other, one, "x"), "below f g")
        self.check_holds(Alike(one, one * 2, "x"))
        self.check_holds(Rises(one, "x", "x"))
        self.check_holds(always("x == f(x)", p=one), "up f")
        behind = program("still", "z |= g(z)", "end") + one
        self.check_holds(always("x <= y", "x <= y", "f(f(y)) <= y", "g(z) <= z", p=behind))
        self.check_size(4, always("x <= y", "x <= y", "f(f(x)) <= y", "g(z) <= z", p=behind))
        both = program("still", "x |= f(x)", "x |= g(x)", "end")
        self.check_holds(Alike(both, other, "x"), "below f g")
        self.check_size(3, Alike(both, one + other, "x"))
        self.check_size(2, Alike(both, other, "x"), "up f", "up g")

    def test_programs(self):
        least = program("x &= y", "x &= z")
        self.check_holds(Alike(least, program("x = lesser(z, lesser(y, x))"), "x"))
        self.check_holds(NeverAbove(least, NOTHING, "x"))
        self.check_size(2, NeverAbove(NOTHING, least, "x"))
        median, turned = "x = greater(lesser(x, y), lesser(greater(x, y), z))", "x = lesser(greater(x, y), greater(lesser(x, y), z))"
        self.check_holds(Alike(program(median), program(turned), "x"))
        choice = program("if x <= f(y)", "y |= f(x)", "else", "refuse no", "end")
        self.check_holds(always("x <= f(y)", p=choice))
        self.check_size(2, NeverRefuses(choice))
        self.check_holds(NeverRefuses(choice, supposed=[said("x <= y")]), "up f")
        self.check_holds(NeverRefuses(choice, "bad"))
        self.check_size(1, Alike(choice, program("x = x") * 2 + program("refuse no")))
        self.check_holds(NeverAbove(choice, program("refuse bad"), "x"))
        self.check_holds(Rises(program("x = f(x)", "x |= g(y)"), "x", "x"))
        self.check_holds(Falls(program("x = h(y, x)"), "x", "x"))
        self.check_size(2, Falls(program("x = h(y, x)"), "x", "y"))
        self.check_holds(NeverTaken(program("if x <= f(x)", "x = f(x)", "end"), 0, False), "up f")

    def test_rises_need_two_starts(self):
        found = breach(Rises(program("x = d(x)"), "x", "x"))
        self.assertEqual((found.world.size, found.world[D], found.start, found.other), (2, (1, 0), {"x": 0}, 1))
        found = breach(Falls(program("y = f(x)"), "y", "x", supposed=[said("y < x")]))
        self.assertEqual((found.world.size, found.start, found.other), (3, {"x": 1, "y": 0}, 2))

    def test_traits_that_are_told_as_none(self):
        claim = always("x <= f(x)")
        for told in (None, Traits()):
            self.assertIs(holds(claim, told), False)
            self.assertEqual(breach(claim, told).world, breach(claim).world)


class Breaches(Decided):

    def test_attributes(self):
        found = breach(always("x <= f(x)"))
        self.assertIsInstance(found, Breach)
        self.check_listed(found, (), ("world", "start", "other"))
        self.assertEqual((found.world.size, found.world[F], found.start, found.other), (2, (0, 0), {"x": 1}, None))

    def test_arguments_by_name(self):
        claim, told = always("x <= f(x)"), traits("up f")
        self.assertIs(holds(traits=told, claim=claim), True)
        self.assertIs(holds(claim=claim), False)
        self.assertIsNone(breach(traits=told, claim=claim))
        self.assertEqual(breach(claim=claim).start, breach(claim, traits=None).start)

    def test_further_steps(self):
        told = traits("mean m", "settled g", "back e f", "alike u")
        found = self.check_decided(always("x < f(x)", "y <= x"), told)
        self.assertEqual([step.name for step in found.world.steps], ["e", "f", "g", "m", "u"])

    def test_the_same_call_again(self):
        claim, told = NeverAbove(program("still", "x |= f(x)", "end"), program("x |= f(x)"), "x"), traits("up g")
        first = breach(claim, told)
        first.start["y"] = 7
        self.assertFalse(holds(always("x <= f(x)")))
        again = breach(claim, told)
        self.assertEqual((again.start, again.other), ({"x": first.start["x"]}, None))
        self.assertEqual(again.world, first.world)
        self.assertEqual((str(claim), str(told)), ("above x\nstill\nx |= f(x)\nend\nagainst\nx |= f(x)", "up g"))

    def test_what_is_returned_may_be_passed_on(self):
        found = breach(Rises(program("x = d(x)"), "x", "x"))
        self.assertTrue(fails_in(Rises(program("x = d(x)"), "x", "x"), found.world))
        self.assertEqual(found.world.value(D("x"), found.start), 1)


class Errors(Case):

    def check_errors(self, word, claim, told):
        self.check_error(InvalidClaim, word, holds, claim, told)
        self.check_error(InvalidClaim, word, breach, claim, told)
        self.check_error(InvalidClaim, word, tree, claim, told)
        for shown in ((), None, ("x", "y", (), ())):
            self.check_error(InvalidClaim, word, tree_holds, claim, told, shown)

    def test_unlike_steps(self):
        for claim in (always("f(x) <= x"), NeverRefuses(program("x = f(x)")), Alike(NOTHING, program("x = f(x)")),
                      always("x <= x", "x < f(x)"), Rises(program("still", "x |= f(x)", "end"), "x", "x")):
            for unlike in (Traits(Trait("alike", Step("f", "--"))), Traits(Trait("below", Step("f", "-"), D)),
                           traits("up g") | Traits(Trait("mean", Step("f", "++")))):
                self.check_errors("step", claim, unlike)
        self.assertIs(holds(always("x <= x"), Traits(Trait("mean", Step("f", "++")))), True)

    def test_loops(self):
        loops = [program("still", "x |= f(x)", "end"), program("refuse no", "if x <= y", "y = x", "else", "still", "y |= m(x, x)",
                 "x |= f(x)", "end", "end")]
        for loop in loops:
            for claim in (NeverRefuses(loop), Alike(NOTHING, loop), NeverAbove(loop, NOTHING, "x"), Rises(loop, "x", "y"),
                          Falls(loop, "x", "y"), Always(loop, NEVER), Always(loop, NEVER, supposed=[said("g(x) < x")])):
                for told in (["down f"], ["settled f"], ["back f g"], ["back g f"], ["below f g", "down g"],
                             ["below f e", "below e g", "down g"], ["down f", "up f"], ["settled f", "up g"]):
                    self.check_errors("loop", claim, traits(*told))
                for told in ([], ["up f"], ["below f g"], ["below g f"], ["below g f", "down g"], ["up f", "below f g"],
                             ["settled g"], ["down g"], ["back g e"], ["below g f", "down g", "up f"]):
                    self.assertIn(holds(claim, traits(*told)), (True, False))
        two = program("still", "x |= m(x, y)", "end")
        for told in ("mean m", "alike m"):
            self.check_errors("loop", NeverRefuses(two), traits(told))
        self.assertIs(holds(NeverRefuses(two), traits("alike n")), True)

    def test_the_first_in_order(self):
        claim = Always(program("still", "x |= f(x)", "end"), said("g(x) < x"))
        self.check_errors("step", claim, Traits(Trait("down", F), Trait("mean", Step("g", "++"))))
        self.check_errors("loop", claim, Traits(Trait("down", F), Trait("mean", Step("s", "++"))))

    def test_a_claim_is_not_changed(self):
        claim = NeverRefuses(program("still", "x |= f(x)", "end"))
        self.check_errors("loop", claim, traits("down f"))
        self.assertIs(holds(claim), True)
        self.assertEqual(str(claim), "refuses\nstill\nx |= f(x)\nend")


if __name__ == "__main__":
    unittest.main()
