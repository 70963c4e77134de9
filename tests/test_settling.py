"""Points [33] and [34]: loops as sets of rules."""

import unittest
from itertools import combinations, product
from random import Random

from knownways.errors import InvalidClaim, InvalidRow
from knownways.following import known_of
from knownways.programs import Program
from knownways.rows import Put, Raise, Still
from knownways.running import run
from knownways.settling import least_rows, rounds, settle_alike
from knownways.steps import Step
from knownways.traits import Trait, Traits
from knownways.worlds import World, worlds
from tests.helpers import Case, no_rows, plain_values
from tests.making import Making

F, G, E, M, T = Step("f", "+"), Step("g", "+"), Step("e", "+"), Step("m", "++"), Step("t", "+++")
XF, XG, YF, XY, YX = Raise("x", F("x")), Raise("x", G("x")), Raise("y", F("y")), Raise("x", F("y")), Raise("y", F("x"))
BELOW = Traits(Trait("below", F, G))


def ends(rows, world, start):
    return run(Program([Still(rows)]), world, start).held


def all_starts(names, size):
    return [dict(zip(names, values)) for values in product(range(size), repeat=len(names))]


def differ(rows, others, world):
    """Whether the loops end otherwise from some start of the world."""
    names = sorted({name for row in (*rows, *others) for name in row.names})
    return any(ends(rows, world, start) != ends(others, world, start) for start in all_starts(names, world.size))


def some_worlds(steps, told, seed):
    """Worlds that keep the traits: all small ones of at most two steps of one argument, else some made ones."""
    if len(steps) < 3 and all(len(step) == 1 for step in steps):
        for size in range(1, 5 if len(steps) == 1 else 4):
            yield from worlds(steps, size, told)
    making = Making(seed)
    for at in range(30):
        world = making.world(2 + at % 3, tuple(steps))
        if world.keeps(told):
            yield world


class Alike(Case):

    def test_known_answers(self):
        for rows, others, told, expected in (
                ([XF, XG], [XG, XF], None, True), ([XF], [XF, XF], None, True), ([XF], [XG], None, False),
                ([XF, XG], [XG], None, False), ([XF, XG], [XG], BELOW, True), ([XF, XG], [XF], BELOW, False),
                ([XF], [XG], BELOW, False), ([XY, YX], [YX, XY], None, True), ([XY, YX], [XF, YF], None, False),
                ([XF], [YF], None, False), ([XY], [XY], None, True), ([XY, YX], [XY], None, False),
                ([Raise("x", M("x", "y"))], [Raise("x", M("y", "x"))], None, False),
                ([Raise("x", M("x", "x"))], [Raise("x", M("x", "x")), Raise("x", M("x", "x"))], None, True),
                ([XF, XG], [XG], Traits(Trait("below", F, E), Trait("below", E, G)), True),
                ([XF, XY], [XY, XF], None, True)):
            self.assertIs(settle_alike(rows, others, told), expected)
            self.assertIs(settle_alike(others, rows, told), expected)

    def test_names_of_one_loop_only(self):
        # y is set by the one loop only, and z only read.
        self.assertIs(settle_alike([XF, YF], [XF]), False)
        self.assertIs(settle_alike([XF], [XF, YF]), False)
        self.assertIs(settle_alike([Raise("x", F("z"))], [Raise("x", F("y"))]), False)

    def test_a_row_that_others_do_the_work_of(self):
        # Where f(x) <= y and f(y) <= x, f(x) <= x is so, too: by the lesser of x and y.
        self.assertIs(settle_alike([XY, YX], [XY, YX, XF]), True)
        self.assertIs(settle_alike([XY, YX], [XF, YF]), False)
        # The loops of f and of g are the same where both steps are.
        both = BELOW | Traits(Trait("below", G, F))
        self.assertIs(settle_alike([XF], [XG], both), True)

    def check_made(self, rows, others, told, seed):
        steps = sorted({step.name: step for row in (*rows, *others) for step in row.steps}.values(), key=lambda step: step.name)
        kept = sorted({step.name: step for step in (*steps, *told.steps)}.values(), key=lambda step: step.name)
        found = settle_alike(rows, others, told)
        unlike = any(differ(rows, others, world) for world in some_worlds(kept, told, seed))
        self.assertFalse(found and unlike, ([str(row) for row in rows], [str(row) for row in others], str(told)))
        return found, unlike

    def test_made_loops(self):
        seen = []
        for seed in range(160):
            chance = Random(seed)
            names = "xyz"[:chance.randrange(1, 4)]
            pool = [[F], [F, G], [F, M], [F, G, E]][seed % 4]
            told = [Traits(), Traits(Trait("up", F)), BELOW, Traits(Trait("up", F), Trait("below", F, G))][seed // 4 % 4]
            rows = []
            for _ in range(chance.randrange(1, 4)):
                step = chance.choice(pool)
                rows.append(Raise(chance.choice(names), step(*[chance.choice(names) for _ in step.ways])))
            others = [rows[-1], *rows[:-1]] if seed % 3 == 0 else rows[1:] or rows * 2 if seed % 3 == 1 else [
                *rows[:2], Raise(chance.choice(names), chance.choice(pool[:1])(chance.choice(names)))]
            found, unlike = self.check_made(rows, others, told, seed)
            seen.append((found, unlike))
        self.assertGreater(seen.count((True, False)), 50)
        self.assertGreater(seen.count((False, True)), 30)
        self.assertLess(seen.count((False, False)), 8)

    def test_a_list_or_a_tuple(self):
        for one, other in product(([XF, XG], (XF, XG)), ([XG, XF], (XG, XF))):
            self.assertIs(settle_alike(one, other), True)
        self.assertIs(settle_alike(traits=BELOW, others=(XG,), rows=[XF, XG]), True)

    def test_at_the_limits(self):
        names = ("x", "y", "z")
        rows = [Raise(name, T(*names[at:], *names[:at])) for at, name in enumerate(names)]
        self.assertIs(settle_alike(rows, rows[::-1]), True)
        self.assertIs(settle_alike(rows, rows[1:]), False)
        other = [*rows[:2], Raise("z", T("z", "y", "x"))]
        self.assertIs(settle_alike(rows, other), False)
        self.assertEqual(least_rows(rows), ((0, 1, 2),))


class LeastRows(Case):

    def check_least(self, rows, told, expected=None):
        """The answer is that of the definition."""
        found = least_rows(rows, told)
        alike = [chosen for count in range(1, len(rows) + 1) for chosen in combinations(range(len(rows)), count)
                 if self.ends_as_all(rows, chosen, told)]
        least = [chosen for chosen in alike if not any(set(less) < set(chosen) for less in alike)]
        self.assertEqual(found, tuple(sorted(least, key=lambda chosen: (len(chosen), chosen))))
        if expected is not None:
            self.assertEqual(found, expected)

    def ends_as_all(self, rows, chosen, told):
        return settle_alike([rows[at] for at in chosen], rows, told)

    def test_known_answers(self):
        for rows, told, expected in (
                ([XF, XG], None, ((0, 1),)), ([XF, XG], BELOW, ((1,),)), ([XG, XF], BELOW, ((0,),)), ([XF], None, ((0,),)),
                ([XF, XF], None, ((0,), (1,))), ([XF, XF, XF], None, ((0,), (1,), (2,))), ([XF, XG, XF], None, ((0, 1), (1, 2))),
                ([XF, XG, XG], BELOW, ((1,), (2,))), ([XY, YX, XF], None, ((0, 1),)), ([XF, YF], None, ((0, 1),)),
                ([XY, YX, XF], Traits(Trait("up", F)), ((0, 1),)), ([XF, XG, XF], BELOW, ((1,),))):
            self.check_least(rows, told, expected)

    def test_made_rows(self):
        counts = []
        for seed in range(120):
            chance = Random(seed)
            names = "xyz"[:chance.randrange(1, 4)]
            told = [Traits(), Traits(Trait("up", F)), BELOW, Traits(Trait("up", F), Trait("below", F, G))][seed % 4]
            rows = []
            for _ in range(chance.randrange(1, 4)):
                step = chance.choice([F, G, M][:2 + seed % 2])
                rows.append(Raise(chance.choice(names), step(*[chance.choice(names) for _ in step.ways])))
            self.check_least(rows, told)
            counts.append(len(least_rows(rows, told)))
        self.assertGreater(len([count for count in counts if count > 1]), 5)

    def test_by_name(self):
        self.assertEqual(least_rows(traits=BELOW, rows=(XF, XG)), ((1,),))
        self.assertEqual(least_rows(rows=[XF, XG]), ((0, 1),))


class Rounds(Case):

    def test_known_answers(self):
        def row(name, *parts, step=None):
            ways = "+" * len(parts)
            return Raise(name, Step(step or "s" + name, ways)(*parts))

        one, other = Raise("x", F("y")), Raise("y", G("z"))
        for rows, expected in (([one, other], 2), ([other, one], 1), ([one], 1), ([Raise("x", F("x"))], None),
                               ([Raise("x", F("y")), Raise("y", G("x"))], None), ([row("x", "y"), row("y", "z"), row("z", "a")], 3),
                               ([row("z", "a"), row("y", "z"), row("x", "y")], 1), ([row("y", "z"), row("x", "y"), row("z", "a")], 2),
                               ([row("x", "y"), row("z", "a"), row("y", "z")], 2), ([row("z", "a"), row("x", "y"), row("y", "z")], 2),
                               ([row("y", "z"), row("z", "a"), row("x", "y")], 2), ([row("x", "y"), row("y", "z"), row("z", "x")], None),
                               ([row("x", "a"), row("y", "a"), row("z", "a")], 1), ([row("x", "a", "x")], None),
                               ([row("x", "y", step="f"), row("x", "z", step="g"), row("z", "y", step="h")], 2),
                               ([row("x", "y", step="f"), row("y", "z", step="g"), row("y", "a", step="h")], 2),
                               ([row("x", "y", "z"), row("z", "a"), row("y", "z")], 2),
                               ([row("x", "y", "z"), row("y", "z"), row("z", "a")], 3),
                               ([row("x", "a"), row("y", "y"), row("z", "b")], None),
                               ([row("x", "a", step="f"), row("x", "b", step="g")], 1)):
            self.assertEqual(rounds(rows), expected, [str(one) for one in rows])
            self.assertEqual(rounds(tuple(rows)), expected)
            self.assertEqual(rounds(rows=rows), expected)

    def once(self, rows, world, start):
        return run(Program(rows), world, start).held

    def test_so_many_rounds_do_what_the_loop_does(self):
        for seed in range(300):
            chance = Random(seed)
            names = "xyza"
            rows = [Raise(chance.choice(names), step(*[chance.choice(names) for _ in step.ways]))
                    for step in chance.sample([F, G, E, M], chance.randrange(1, 4))]
            needed = rounds(rows)
            making = Making(seed)
            most = 0
            for at in range(25):
                size = 2 + at % 4
                world = making.world(size, (F, G, E, M))
                start = making.start(size, tuple(names))
                held, count = dict(start), 0
                while self.once(rows, world, held) != held:
                    held, count = self.once(rows, world, held), count + 1
                most = max(most, count)
            if needed is not None:
                self.assertLessEqual(most, needed, [str(row) for row in rows])
                self.assertIn(needed, range(1, 4))

    def test_fewer_rounds_do_less(self):
        # Each step carries the greater value on by one row in each round.
        turn = [Raise("x", F("y")), Raise("y", G("z")), Raise("z", E("a"))]
        same = World(2, [(step, (0, 1)) for step in (F, G, E)])
        start = {"a": 1, "x": 0, "y": 0, "z": 0}
        held, count = dict(start), 0
        while self.once(turn, same, held) != held:
            held, count = self.once(turn, same, held), count + 1
        self.assertEqual((count, rounds(turn)), (3, 3))

    def test_errors(self):
        for rows in ([XF, XF], [XF, YX], [XF, XG, YX], [XG, XF, YX], [Raise("x", F("y")), Raise("y", F("z"))], (XY, YX)):
            self.check_error(InvalidRow, "step", rounds, rows)


class Errors(Case):

    def each_call(self, rows, *told):
        return [(settle_alike, ([XF], rows, *told)), (settle_alike, (rows, [XF], *told)), (least_rows, (rows, *told))]

    def test_rows(self):
        for value in no_rows():
            calls = self.each_call([value]) + self.each_call((XF, value)) + [(rounds, ([value],)), (rounds, ([XG, value],))]
            if value.__class__ not in (list, tuple):
                calls += [*self.each_call(value), (rounds, (value,))]
            for call, values in calls:
                self.check_error(InvalidRow, "row", call, *values)
        for value in plain_values():
            if value in ([], ()):
                for call, values in [*self.each_call(value), (rounds, (value,))]:
                    self.check_error(InvalidRow, "loop", call, *values)

    def test_loops(self):
        for rows in ([], [Put("x", F("x"))], [XF, XF, XF, XF], [Raise("x", "y")], [Raise("x", F(F("y")))], [Still([XF])],
                     [Raise("x", Step("d", "-")("x"))], [XF, Raise("x", Step("q", "+?")("x", "y"))]):
            for call, values in [*self.each_call(rows), (rounds, (rows,))]:
                self.check_error(InvalidRow, "loop", call, *values)

    def test_steps(self):
        unlike = Raise("y", Step("f", "++")("x", "y"))
        self.check_error(InvalidClaim, "step", settle_alike, [XF], [unlike])
        self.check_error(InvalidClaim, "step", settle_alike, [XF, unlike], [XG])
        self.check_error(InvalidClaim, "step", settle_alike, [XG], [XF, unlike])
        self.check_error(InvalidClaim, "step", least_rows, [XF, unlike])
        told = Traits(Trait("mean", Step("f", "++")))
        for call, values in self.each_call([XF], told):
            self.check_error(InvalidClaim, "step", call, *values)
        self.check_error(InvalidClaim, "step", settle_alike, [XG], [XF], told)
        self.check_error(InvalidClaim, "step", settle_alike, [XF], [XG], told)

    def test_traits(self):
        for told in (Traits(Trait("down", F)), Traits(Trait("settled", F)), Traits(Trait("back", F, G)), Traits(Trait("back", E, F)),
                     Traits(Trait("below", F, E), Trait("down", E)), Traits(Trait("up", F), Trait("down", F))):
            for call, values in self.each_call([XF], told):
                self.check_error(InvalidClaim, "loop", call, *values)
            self.check_error(InvalidClaim, "loop", settle_alike, [XG], [XG, XF], told)
            self.check_error(InvalidClaim, "loop", settle_alike, [XG, YF], [XG], told)
            self.check_error(InvalidClaim, "loop", least_rows, [XG, XF], told)

    def test_the_first_in_order(self):
        unlike, down = Raise("y", Step("f", "++")("x", "y")), Traits(Trait("down", F))
        self.check_error(InvalidRow, "row", settle_alike, None, [])
        self.check_error(InvalidRow, "loop", settle_alike, [], None)
        self.check_error(InvalidRow, "row", settle_alike, [XF, unlike], None, down)
        self.check_error(InvalidRow, "loop", settle_alike, [XF, unlike], [], down)
        self.check_error(InvalidClaim, "step", settle_alike, [XF], [unlike], down)
        self.check_error(InvalidClaim, "step", least_rows, [XF, unlike], down)
        self.check_error(InvalidRow, "loop", least_rows, [XF, unlike, XF, XF], down)
        self.check_error(InvalidRow, "loop", rounds, [XF, XF, XF, XF])
        self.check_error(InvalidRow, "row", rounds, [XF, XF, None])

    def test_nothing_changes(self):
        rows = [XF, XG]
        for _ in range(2):
            self.assertEqual((settle_alike(rows, [XG], BELOW), least_rows(rows, BELOW), rounds([XY, Raise("y", G("z"))])),
                             (True, ((1,),), 2))
        self.assertEqual(([str(row) for row in rows], str(BELOW)), (["x |= f(x)", "x |= g(x)"], "below f g"))
        self.assertEqual(known_of((), (), BELOW).over, {"f": ["g"]})


if __name__ == "__main__":
    unittest.main()
