"""Point [22]: whether claims fail in a world from a start."""

import unittest
from itertools import product

from knownways.claims import Alike, Always, Falls, NeverAbove, NeverRefuses, NeverTaken, Rises
from knownways.comparisons import Comparison
from knownways.errors import InvalidStart, NoName, NoStep
from knownways.programs import Program
from knownways.reader import read
from knownways.rows import If, Put, Refuse
from knownways.running import run
from knownways.steps import Step
from knownways.worlds import World
from tests.claiming import POOL, Claiming
from tests.helpers import Case, anything
from tests.making import Making

U, D, M = Step("u", "+"), Step("d", "-"), Step("m", "++")
STEPS = [U, D, M]
WORLD = World(3, [(U, (1, 2, 2)), (D, (2, 1, 0)), (M, ((0, 0, 1), (0, 1, 2), (1, 2, 2)))])


def program(*lines):
    return read("\n".join(lines), STEPS)


NOTHING = program()
UP = program("x = u(x)")
DOWN = program("x = d(x)")
NO = program("refuse no")
BAD = program("refuse bad")
NO_IF_LOW = program("if x <= y", "refuse no", "end")


def sides(row_program, world, start):
    """The sides of Ifs that a run enters: each If's rows and others are told apart by words in their places."""
    marked = []
    for at in range(len(row_program)):
        if isinstance(row_program[at], If):
            marked += [(at, side) for side in (True, False) if enters(row_program, at, side, world, start)]
    return marked


def enters(row_program, at, side, world, start):
    """Whether the run is refused at once where that side begins with a refusal of its own."""
    number = [-1]

    def marked(rows):
        found = []
        for row in rows:
            number[0] += 1
            mine = number[0]
            if isinstance(row, If):
                kept, others = marked(row.rows), marked(row.others)
                mark = [Refuse("mark")] if mine == at else []
                found.append(If(row.left, row.right, (mark if side else []) + kept, ([] if side else mark) + others))
            else:
                number[0] += len(getattr(row, "rows", ()))
                found.append(row)
        return found

    return run(Program(marked(row_program.rows)), world, start).refused == "mark"


def expected(claim, world, start, other):
    """Whether the claim fails, word by word after [20]."""
    if not all(said.holds(world, start) for said in claim.supposed):
        return False
    kind = claim.__class__.__name__
    one = run(claim.p, world, start)
    if kind in ("Rises", "Falls"):
        if other < start[claim.into]:
            return False
        two = run(claim.p, world, {**start, claim.into: other})
        if one.refused or two.refused:
            return False
        low, high = one.held[claim.out], two.held[claim.out]
        return low > high if kind == "Rises" else low < high
    if kind == "NeverRefuses":
        return one.refused is not None and (not claim.words or one.refused in claim.words)
    if kind == "Always":
        return one.refused is None and not claim.comparison.holds(world, one.held)
    if kind == "NeverTaken":
        return (claim.at, claim.side) in sides(claim.p, world, start)
    two = run(claim.q, world, start)
    if kind == "NeverAbove":
        return one.refused is None and two.refused is None and one.held[claim.name] > two.held[claim.name]
    if one.refused or two.refused:
        return one.refused != two.refused
    return any(one.held[name] != two.held[name] for name in claim.wanted)


class EachKind(Case):

    def check_fails(self, claim, starts, other=None):
        """The claim fails from just these starts (x, y)."""
        for x, y in product(range(3), repeat=2):
            self.assertIs(claim.fails(WORLD, {"x": x, "y": y}, other), (x, y) in starts, (str(claim), x, y))

    def all_starts(self, test=lambda x, y: True):
        return [(x, y) for x, y in product(range(3), repeat=2) if test(x, y)]

    def test_alike(self):
        self.check_fails(Alike(NOTHING, UP, "x"), self.all_starts(lambda x, y: x < 2))
        self.check_fails(Alike(NOTHING, UP, "y"), [])
        self.check_fails(Alike(NOTHING, UP), [])
        self.check_fails(Alike(UP, DOWN, "y", "x"), self.all_starts())
        self.check_fails(Alike(NO, NO, "x"), [])
        self.check_fails(Alike(UP + NO, NO, "x"), [])
        self.check_fails(Alike(NO, BAD), self.all_starts())
        self.check_fails(Alike(NO, NOTHING), self.all_starts())
        self.check_fails(Alike(NOTHING, NO), self.all_starts())
        self.check_fails(Alike(NO_IF_LOW, NOTHING, "x"), self.all_starts(lambda x, y: x <= y))

    def test_never_above(self):
        self.check_fails(NeverAbove(UP, NOTHING, "x"), self.all_starts(lambda x, y: x < 2))
        self.check_fails(NeverAbove(NOTHING, UP, "x"), [])
        self.check_fails(NeverAbove(UP, UP, "x"), [])
        self.check_fails(NeverAbove(UP, NOTHING, "y"), [])
        for refused in ((UP + NO, NOTHING), (UP, NO), (NO, BAD)):
            self.check_fails(NeverAbove(*refused, "x"), [])
        self.check_fails(NeverAbove(NO_IF_LOW + UP, NOTHING, "x"), [(1, 0)])

    def test_never_refuses(self):
        self.check_fails(NeverRefuses(NOTHING), [])
        self.check_fails(NeverRefuses(NO), self.all_starts())
        self.check_fails(NeverRefuses(NO, "no"), self.all_starts())
        self.check_fails(NeverRefuses(NO, "bad", "no"), self.all_starts())
        self.check_fails(NeverRefuses(NO, "bad"), [])
        self.check_fails(NeverRefuses(NO_IF_LOW + BAD, "no"), self.all_starts(lambda x, y: x <= y))
        self.check_fails(NeverRefuses(NO_IF_LOW + BAD, "bad"), self.all_starts(lambda x, y: x > y))

    def test_always(self):
        self.check_fails(Always(UP, Comparison("x", "<=", "y")), [(0, 0), (1, 0), (2, 0), (1, 1), (2, 1)])
        self.check_fails(Always(UP, Comparison("x", "<", "y")), self.all_starts(lambda x, y: (1, 2, 2)[x] >= y))
        self.check_fails(Always(UP, Comparison("x", "==", U("x"))), [(0, 0), (0, 1), (0, 2)])
        self.check_fails(Always(NO, Comparison("x", "<", "x")), [])
        self.check_fails(Always(NO_IF_LOW, Comparison("x", "<=", "y")), self.all_starts(lambda x, y: x > y))

    def test_never_taken(self):
        choice = program("if x <= y", "if y <= x", "end", "else", "x = y", "end")
        self.check_fails(NeverTaken(choice, 0, True), self.all_starts(lambda x, y: x <= y))
        self.check_fails(NeverTaken(choice, 0, False), self.all_starts(lambda x, y: x > y))
        self.check_fails(NeverTaken(choice, 1, True), [(0, 0), (1, 1), (2, 2)])
        self.check_fails(NeverTaken(choice, 1, False), self.all_starts(lambda x, y: x < y))
        self.check_fails(NeverTaken(NO + choice, 1, True), [])
        self.check_fails(NeverTaken(choice + NO, 0, True), self.all_starts(lambda x, y: x <= y))
        twice = program("x = y", "if x <= y", "else", "if x <= y", "end", "end", "if y <= u(y)", "end")
        self.check_fails(NeverTaken(twice, 3, True), self.all_starts())
        self.check_fails(NeverTaken(twice, 3, False), [])
        self.check_fails(NeverTaken(twice, 2, True), [])

    def test_rises_and_falls(self):
        for kind, row, broken in ((Rises, "x = u(y)", False), (Rises, "x = d(y)", True), (Falls, "x = u(y)", True),
                                  (Falls, "x = d(y)", False)):
            for x, y, other in product(range(3), repeat=3):
                table = WORLD[STEPS["ud".index(row[4])]]
                fails = broken and other > y and table[other] != table[y]
                self.assertIs(kind(program(row), "x", "y").fails(WORLD, {"x": x, "y": y}, other), fails)
                self.assertIs(kind(program(row), "y", "x").fails(WORLD, {"x": x, "y": y}, other), False)
                self.assertIs(kind(program(row, "refuse no"), "x", "y").fails(WORLD, {"x": x, "y": y}, other), False)

    def test_one_run_is_refused(self):
        low_only, high_only = program("if x <= y", "refuse no", "end", "y = d(x)"), program(
            "if y <= x", "refuse no", "end", "y = d(x)")
        for claim in (Rises(low_only, "y", "x"), Rises(high_only, "y", "x")):
            for x, y, other in product(range(3), repeat=3):
                refused = (min(x, other) <= y) if claim.p == low_only else y <= max(x, other)
                fails = not refused and other > x
                self.assertIs(claim.fails(WORLD, {"x": x, "y": y}, other), fails)

    def test_other(self):
        rises = Rises(DOWN, "x", "x")
        self.assertIs(rises.fails(WORLD, {"x": 1}, 2), True)
        self.assertIs(rises.fails(WORLD, {"x": 1}, other=1), False)
        self.assertIs(rises.fails(WORLD, {"x": 1}, 0), False)
        self.assertIs(Falls(UP, "x", "x").fails(WORLD, {"x": 1}, 0), False)
        for value in anything():
            self.assertIs(Alike(NOTHING, UP, "x").fails(WORLD, {"x": 1}, value), True)
            self.assertIs(Always(UP, Comparison("x", "<", "x")).fails(WORLD, {"x": 1}, value), True)

    def test_suppositions(self):
        low, same = Comparison("x", "<", "y"), Comparison(U("x"), "==", U("y"))
        claims = [Alike(NOTHING, NO), NeverAbove(program("x = u(y)"), DOWN, "x"), NeverRefuses(NO),
                  Always(UP, Comparison("x", "<", "x")), NeverTaken(program("if x <= x", "end"), 0, True)]
        for claim in claims:
            free = [(x, y) for x, y in product(range(3), repeat=2) if claim.fails(WORLD, {"x": x, "y": y})]
            self.assertGreater(len(free), 2)
            self.check_fails(claim.under(low), [(x, y) for x, y in free if x < y])
            self.check_fails(claim.under(same), [(x, y) for x, y in free if x == y or 0 not in (x, y)])
            self.check_fails(claim.under(low, same), [(1, 2)] if (1, 2) in free else [])
        # They speak of the start of the first run, and of no end.
        rises = Rises(DOWN, "x", "x").under(Comparison("x", "<=", "y"))
        self.assertIs(rises.fails(WORLD, {"x": 0, "y": 0}, 2), True)
        self.assertIs(rises.fails(WORLD, {"x": 1, "y": 0}, 2), False)

    def test_made_claims(self):
        broken = 0
        for seed in range(600):
            making = Claiming(seed, names=("x", "y", "z"), weight=9)
            claim, size = making.claim(), 1 + seed % 4
            other = Making(seed)
            world = other.world(size, tuple(POOL))
            for _ in range(4):
                start = other.start(size, ("x", "y", "z"))
                kept, again = dict(start), other.chance.randrange(size)
                fails = claim.fails(world, start, again)
                self.assertIs(fails, expected(claim, world, start, again), (seed, str(claim)))
                self.assertIs(claim.fails(other=again, start=start, world=world), fails)
                self.assertEqual(list(start.items()), list(kept.items()))
                broken += fails
        self.assertGreater(broken, 400)


def starts_that_hold_no_values():
    return [value for value in anything() if value.__class__ is not int or value not in (0, 1, 2)]


class Refused(Case):

    def each_claim(self, p):
        x_less = Comparison("x", "<", "y")
        return [Alike(p, NOTHING, "x"), Alike(NOTHING, p, "x"), NeverAbove(NOTHING, p, "x"), Rises(p, "x", "y"),
                Falls(p, "x", "y"), NeverRefuses(p), Always(p, x_less), NeverTaken(p + program("if x <= y", "end"), len(p), True)]

    def test_no_step(self):
        lacking = Step("k", "+")
        for claim in self.each_claim(Program([Put("x", lacking("y")), Put("x", Step("e", "-")("z"))])):
            for start in ({}, {"x": None}, {"x": 0, "y": 0, "z": 0}):
                self.check_error(NoStep, "e", claim.fails, WORLD, start, "none")
        unlike = Step("u", "-")
        for claim in self.each_claim(program()):
            self.check_error(NoStep, "k", claim.under(Comparison(lacking("x"), "<", U("x"))).fails, WORLD, {})
            self.check_error(NoStep, "u", claim.under(Comparison(unlike("x"), "<", "x")).fails, WORLD, {"x": 0, "y": 0}, 0)
        self.check_error(NoStep, "e", Always(NOTHING, Comparison("x", "<", Step("e", "?")("x"))).fails, WORLD, {"x": 0})

    def test_no_name(self):
        for claim in self.each_claim(program("x = u(z)")):
            self.check_error(NoName, "x", claim.fails, WORLD, {})
            self.check_error(NoName, "x", claim.fails, WORLD, {"a": None, "z": 0}, 0)
            self.check_error(NoName, "z", claim.fails, WORLD, {"x": "no", "y": 0}, None)
            self.check_error(NoName, "b", claim.under(Comparison("x", "<", "b")).fails, WORLD, {"x": 0, "y": 0, "z": 0}, 0)
        self.check_error(NoName, "a", Rises(NOTHING, "b", "a").fails, WORLD, {"b": 0}, 0)
        self.check_error(NoName, "b", Rises(NOTHING, "b", "a").fails, WORLD, {"a": 0}, 0)
        self.check_error(NoName, "y", Alike(NOTHING, NOTHING, "x", "y").fails, WORLD, {"x": 0})
        self.check_error(NoName, "x", NeverAbove(NOTHING, NOTHING, "x").fails, WORLD, {})
        self.check_error(NoName, "y", Always(NOTHING, Comparison("x", "<", "y")).fails, WORLD, {"x": 0})

    def test_invalid_start(self):
        for claim in self.each_claim(UP):
            for value in starts_that_hold_no_values():
                self.check_error(InvalidStart, "y", claim.fails, WORLD, {"z": None, "y": value, "x": 0}, None)
                self.check_error(InvalidStart, "a", claim.fails, WORLD, {"x": 0, "y": 0, "a": value}, 0)
                self.check_error(InvalidStart, "x", claim.fails, WORLD, {"y": value, "x": value}, 0)

    def test_invalid_other(self):
        for kind, name in ((Rises, "y"), (Falls, "y"), (Rises, "x"), (Falls, "x")):
            claim = kind(NO, "x", name)
            impossible = claim.under(Comparison("x", "<", "x"))
            start = {"x": 0, "y": 0}
            for value in starts_that_hold_no_values():
                self.check_error(InvalidStart, name, claim.fails, WORLD, start, value)
                self.check_error(InvalidStart, name, impossible.fails, WORLD, start, value)
                self.check_error(InvalidStart, "a", claim.fails, WORLD, {**start, "a": 3, "z": 3}, value)
            self.check_error(InvalidStart, name, claim.fails, WORLD, start)

    def test_nothing_changes(self):
        start = {"y": 1, "x": 0, "a": 2}
        claims = [(claim, str(claim)) for claim in self.each_claim(UP)]
        tables = dict(WORLD.tables)
        for claim, _ in claims:
            for _ in range(2):
                claim.fails(WORLD, start, 2)
                self.check_error(InvalidStart, "q", claim.fails, WORLD, {**start, "q": 7}, 2)
        self.assertEqual(list(start.items()), [("y", 1), ("x", 0), ("a", 2)])
        self.assertEqual([str(claim) for claim, _ in claims], [text for _, text in claims])
        self.assertEqual(WORLD.tables, tables)


if __name__ == "__main__":
    unittest.main()
