"""Points [29] to [31]: trees, and whether any value is a right one."""

import unittest

from knownways.claims import Alike, Always, Falls, NeverAbove, NeverRefuses, NeverTaken, Rises
from knownways.steps import Step
from knownways.traits import Trait, Traits
from knownways.trees import tree, tree_holds
from tests.claiming import Claiming
from tests.helpers import Case, anything, nested
from tests.test_deciding import F, G, M, NEVER, NOTHING, always, impossible, program, said, traits
from tests.treechecker import is_right

LOOP = program("still", "x |= f(x)", "end")
SPLIT = ("x", "y", (), ())


class Trees(Case):
    """Checks of trees, also against the plain checker."""

    def check_right(self, claim, shown=(), told=None):
        self.assertIs(tree_holds(claim, told, shown), True, (str(claim), shown))
        self.assertTrue(is_right(claim, told, shown), (str(claim), shown))

    def check_wrong(self, claim, shown=(), told=None):
        self.assertIs(tree_holds(claim, told, shown), False, (str(claim), shown))
        self.assertFalse(is_right(claim, told, shown), (str(claim), shown))


class Rules(Trees):
    """Each rule of [30] with a claim that is seen at once, but not if something of what it needs lacks."""

    def check_needed(self, text, *supposed, told=(), p=NOTHING):
        """It is seen by just these suppositions and traits, not without one of them."""
        self.check_right(always(text, *supposed, p=p), (), traits(*told))
        for at in range(len(supposed)):
            self.check_wrong(always(text, *supposed[:at], *supposed[at + 1:], p=p), (), traits(*told))
        for at in range(len(told)):
            self.check_wrong(always(text, *supposed, p=p), (), traits(*told[:at], *told[at + 1:]))

    def test_1(self):
        self.check_needed("x <= x")
        self.check_needed("f(x) == f(x)")
        self.check_needed("x <= z", "x <= y", "y <= z")
        self.check_needed("x < z", "x <= y", "y < z")
        self.check_needed("x < z", "x < y", "y <= z")
        self.check_needed("x < a", "x <= y", "y < z", "z <= a")
        self.check_needed("x <= y", "x < y")
        self.check_needed("x == y", "x == y")
        self.check_needed("y == x", "x <= y", "y <= x")
        self.check_needed("x <= f(y)", "x <= f(x)", "f(x) <= f(y)")
        self.check_wrong(always("x < y", "x <= y"))
        self.check_wrong(always("x < z", "x <= y", "y <= z"))
        self.check_wrong(always("x == y", "x <= y"))

    def test_2(self):
        self.check_needed("f(x) <= f(y)", "x <= y")
        self.check_needed("d(y) <= d(x)", "x <= y")
        self.check_needed("q(x) <= q(y)", "x <= y", "y <= x")
        self.check_needed("m(x, a) <= m(y, z)", "x <= y", "a <= z")
        self.check_needed("n(y, z) <= n(x, a)", "x <= y", "a <= z")
        self.check_needed("h(x, a) <= h(y, z)", "x <= y", "z <= a")
        self.check_needed("t(x, x, z) <= t(y, z, z)", "x <= y", "x <= z")
        self.check_needed("v(x, y, z) <= v(y, x, z)", "x <= y", "y <= x")
        self.check_needed("f(f(x)) <= f(f(y))", "x <= y")
        self.check_needed("f(d(y)) <= f(d(x))", "x <= y")
        self.check_wrong(always("f(x) < f(y)", "x < y"))
        self.check_wrong(always("f(x) <= g(y)", "x <= y"))

    def test_2_with_a_way_of_each_kind(self):
        step = Step("k", "+-?")
        for sign, other, third, right in (("<=", ">=", "==", True), (">=", ">=", "==", False), ("<=", "<=", "==", False),
                                          ("<=", ">=", "<=", False), ("<=", ">=", ">=", False)):
            pairs = [("x", sign, "a"), ("y", other, "b"), ("z", third, "c")]
            supposed = [said(f"{one} {sign} {two}" if sign != ">=" else f"{two} <= {one}") for one, sign, two in pairs]
            claim = Always(NOTHING, NEVER.__class__(step("x", "y", "z"), "<=", step("a", "b", "c")), supposed=supposed)
            (self.check_right if right else self.check_wrong)(claim)

    def test_3(self):
        self.check_needed("m(x, y) <= m(y, x)", told=["alike m"])
        self.check_needed("m(x, y) <= m(z, a)", "x <= a", "y <= z", told=["alike m"])
        self.check_needed("n(z, a) <= n(x, y)", "x <= a", "y <= z", told=["alike n"])
        self.check_needed("u(x, y) <= u(z, a)", "x == a", "y == z", told=["alike u"])
        self.check_wrong(always("m(x, y) <= m(y, x)"), (), traits("mean m"))
        self.check_wrong(always("u(x, y) <= u(z, a)", "x <= a", "y == z"), (), traits("alike u"))

    def test_4(self):
        self.check_needed("f(x) <= g(y)", "x <= y", told=["below f g"])
        self.check_needed("f(x) <= g(x)", told=["below f g"])
        self.check_needed("f(x) <= g(x)", told=["below f e", "below e g"])
        self.check_wrong(always("g(x) <= f(x)"), (), traits("below f g"))
        falling, mixed = (Step("n", "--"), Step("o", "--")), (Step("h", "+-?"), Step("i", "+-?"))
        for (low, high), count in ((falling, 2), (mixed, 3)):
            told = Traits(Trait("below", low, high))
            values, others = ("x", "y", "z")[:count], ("a", "b", "z")[:count]
            up, down = said("x <= a"), said("b <= y")
            supposed = [said("a <= x"), down] if count == 2 else [up, down]
            claim = Always(NOTHING, NEVER.__class__(low(*values), "<=", high(*others)), supposed=supposed)
            self.check_right(claim, (), told)
            self.check_wrong(claim)
            for one in supposed:
                self.check_wrong(Always(NOTHING, claim.comparison, supposed=[one]), (), told)

    def test_5(self):
        self.check_needed("x <= f(x)", told=["up f"])
        self.check_needed("f(x) <= x", told=["down f"])
        self.check_needed("x <= g(x)", told=["up f", "below f g"])
        self.check_needed("f(x) <= x", told=["down g", "below f g"])
        self.check_wrong(always("f(x) <= x"), (), traits("up f"))
        self.check_wrong(always("x <= f(x)"), (), traits("down f"))

    def test_6(self):
        self.check_needed("f(x) <= f(y)", "x <= f(y)", told=["settled f"])
        self.check_needed("f(y) <= f(x)", "f(y) <= x", told=["settled f"])
        self.check_needed("f(f(x)) == f(x)", told=["settled f"])
        self.check_wrong(always("f(x) <= f(y)", "f(x) <= y"), (), traits("settled g"))

    def test_7(self):
        self.check_needed("x <= m(x, y)", "x <= y", told=["mean m"])
        self.check_needed("m(x, y) <= y", "x <= y", told=["mean m"])
        self.check_needed("y <= m(x, y)", "y <= x", told=["mean m"])
        self.check_needed("m(x, y) <= x", "y <= x", told=["mean m"])
        self.check_needed("m(x, x) == x", told=["mean m"])
        self.check_wrong(always("m(x, y) <= x", "x <= y"), (), traits("mean m"))

    def test_8(self):
        self.check_needed("x <= g(y)", "f(x) <= y", told=["back f g"])
        self.check_needed("f(x) <= y", "x <= g(y)", told=["back f g"])
        self.check_wrong(always("f(x) <= y", "x <= g(y)"), (), traits("back g f"))
        # Both terms must be present: nothing is known of f(x) where only g(y) is.
        claim = impossible("x <= g(y)", "y < z")
        self.check_wrong(claim, (), traits("back f g"))

    def test_9_begins_and_rows(self):
        self.check_needed("y <= x", p=program("y = x", "still", "x |= f(x)", "end"))
        self.check_needed("f(x) <= x", p=LOOP)
        self.check_needed("m(y, x) <= x", p=program("still", "x |= m(y, x)", "end"))
        two = program("still", "x |= f(y)", "y |= g(x)", "end")
        self.check_needed("f(y) <= x", p=two)
        self.check_needed("g(x) <= y", p=two)
        self.check_needed("f(z) <= x", p=program("still", "x |= f(x)", "x |= f(z)", "end"))
        self.check_wrong(always("x <= f(x)", p=LOOP))

    def test_9_bounds(self):
        self.check_needed("x <= y", "x <= y", "f(y) <= y", p=LOOP)
        self.check_needed("x <= y", "x <= y", "g(y) <= y", told=["below f g"], p=LOOP)
        self.check_needed("x <= y", "x <= y", "g(y) <= y", told=["below f e", "below e g"], p=LOOP)
        self.check_needed("x <= a", "x <= a", "m(y, a) <= a", p=program("still", "x |= m(y, x)", "end"))
        self.check_needed("x <= a", "x <= a", "y <= b", "m(b, a) <= a", p=program("still", "x |= m(y, x)", "end"))
        self.check_needed("x <= a", "x <= a", "f(a) <= a", "g(a) <= a", p=program("still", "x |= f(x)", "x |= g(x)", "end"))
        both = program("still", "x |= f(y)", "y |= g(x)", "end")
        self.check_needed("x <= a", "x <= a", "y <= b", "f(b) <= a", "g(a) <= b", p=both)
        self.check_needed("y <= b", "x <= a", "y <= b", "f(b) <= a", "g(a) <= b", p=both)
        ring = program("still", "x |= f(y)", "y |= f(z)", "z |= f(x)", "end")
        self.check_needed("y <= b", "x <= a", "y <= b", "z <= c", "f(b) <= a", "f(c) <= b", "f(a) <= c", p=ring)
        # A row's term may be chosen with a greater argument than the bound.
        self.check_needed("x <= y", "x <= y", "y <= z", "f(z) <= y", p=LOOP)
        self.check_wrong(always("x <= y", "x <= y", "f(y) <= z", p=LOOP))

    def test_9_bounds_by_present_terms_only(self):
        claim = Always(LOOP, said("x <= y"), supposed=[said("x <= y"), said("f(y) < f(f(z))"), said("f(f(z)) <= y")])
        self.check_right(claim)
        claim = always("g(x) <= g(y)", "x <= y", "f(z) <= y", "y <= z", p=LOOP)
        self.check_right(claim)
        # f(y) is not present before the knot tells of it.
        lacking = NeverRefuses(program("still", "x |= f(x)", "end", "if x <= y", "else", "refuse no", "end"),
                               supposed=[said("x <= y")])
        self.check_wrong(lacking)
        self.check_wrong(lacking, ("f(y)", "y", (), ()))
        self.check_right(lacking.under(said("f(z) <= y"), said("y <= z")))
        self.check_wrong(lacking.under(said("y <= z")))

    def test_9_bounds_behind_knots(self):
        claim = always("x <= y", "x <= y", "f(f(y)) <= y", p=LOOP)
        self.check_wrong(claim)
        self.check_right(claim, ("f(y)", "y", (), ()))
        self.check_wrong(claim, ("x", "f(y)", (), ()))
        # The bound of an end is a bound for what is worked out of it, and for a loop behind it.
        claim = always("g(x) <= g(y)", "x <= y", "f(y) <= y", "g(y) <= y", p=LOOP + program("still", "x |= g(x)", "end"))
        self.check_right(claim)
        self.check_wrong(always("g(x) <= g(y)", "x <= y", "f(y) <= y", p=LOOP + program("still", "x |= g(x)", "end")))

    def test_two_loops(self):
        for p, q in ((LOOP, LOOP), (LOOP, LOOP * 2), (LOOP * 2, LOOP), (LOOP, program("still", "x |= f(x)", "x |= f(x)", "end"))):
            self.check_right(Alike(p, q, "x"))
        self.check_right(Rises(LOOP, "x", "x"))
        self.check_wrong(Falls(LOOP, "x", "x"))
        self.check_right(NeverAbove(LOOP, program("still", "x |= g(x)", "end"), "x"), (), traits("below f g"))
        self.check_wrong(NeverAbove(LOOP, program("still", "x |= g(x)", "end"), "x"))


class Seen(Trees):
    """What is seen at a place at which nothing is told."""

    def test_impossible_places(self):
        self.check_right(impossible("x < x"))
        self.check_right(impossible("x < y", "y <= x"))
        self.check_right(impossible("f(x) < f(y)", "y <= x"))
        self.check_wrong(impossible("x < y"))
        # Where the suppositions hold nowhere, runs need not end.
        self.check_right(NeverRefuses(program("if x <= y", "refuse no", "end"), supposed=[said("z < z")]))

    def test_knots_at_impossible_places(self):
        self.check_wrong(impossible("x < x"), ("x", "x", (), ()))
        self.check_wrong(always("x <= x"), ("x", "x", (), ("x", "x", (), ())))
        self.check_right(always("x <= x"), ("x", "x", (), ()))

    def test_knots_where_the_claim_is_seen(self):
        self.check_right(always("x <= y", "x <= y"), ("y", "x", (), ()))
        self.check_right(NeverRefuses(program("x = f(y)")), ("y", "x", ("f(y)", "x", (), ()), ()))

    def test_refusals(self):
        no, bad = program("refuse no"), program("refuse bad")
        for claim, right in ((NeverRefuses(no), False), (NeverRefuses(no, "bad"), True), (NeverRefuses(no, "bad", "no"), False),
                             (NeverRefuses(NOTHING), True), (NeverRefuses(NOTHING, "no"), True), (Alike(no, no, "x"), True),
                             (Alike(no, bad), False), (Alike(no, NOTHING), False), (Alike(NOTHING, no), False),
                             (Alike(program("x = f(x)", "refuse no"), no, "x"), True), (NeverAbove(no, NOTHING, "x"), True),
                             (NeverAbove(NOTHING, no, "x"), True), (NeverAbove(no, bad, "x"), True), (Rises(no, "x", "x"), True),
                             (Falls(no, "x", "x"), True), (Always(no, NEVER), True), (Always(NOTHING, NEVER), False)):
            (self.check_right if right else self.check_wrong)(claim)

    def test_both_runs_must_end(self):
        stuck = program("if x <= y", "end")
        refused = program("refuse no")
        for p, q in ((refused, stuck), (stuck, refused)):
            self.check_wrong(NeverAbove(p, q, "x"))
            self.check_right(NeverAbove(p, q, "x"), SPLIT)
        self.check_wrong(NeverRefuses(stuck))
        self.check_right(NeverRefuses(stuck), SPLIT)

    def test_ends(self):
        self.check_right(Alike(program("x = y"), program("x = y"), "x", "y"))
        self.check_wrong(Alike(program("x = y"), NOTHING, "x"))
        self.check_right(Alike(program("x = y"), NOTHING, "y"))
        self.check_right(Alike(program("x = y"), NOTHING, "x", supposed=[said("x == y")]))
        for one in ("x <= y", "y <= x"):
            self.check_wrong(Alike(program("x = y"), NOTHING, "x", supposed=[said(one)]))
        self.check_right(NeverAbove(program("x = y"), NOTHING, "x", supposed=[said("y <= x")]))
        self.check_wrong(NeverAbove(program("x = y"), NOTHING, "x", supposed=[said("x <= y")]))
        self.check_right(Rises(program("x = f(y)"), "x", "y"))
        self.check_wrong(Rises(program("x = d(y)"), "x", "y"))
        self.check_right(Falls(program("x = d(y)"), "x", "y"))
        self.check_wrong(Falls(program("x = f(y)"), "x", "y"))
        self.check_right(Falls(NOTHING, "x", "y"))
        self.check_right(Rises(NOTHING, "x", "y"))

    def test_always(self):
        self.check_right(always("x <= y", "x <= y"))
        self.check_right(always("x < y", "x < y"))
        self.check_right(always("x == y", "x == y"))
        self.check_right(always("x <= y", p=program("x = y")))
        self.check_wrong(always("lesser(x, y) <= y"))
        self.check_right(always("lesser(x, y) <= y"), SPLIT)
        self.check_right(always("x <= greater(x, y)"), SPLIT)
        self.check_right(always("x <= greater(x, y)"), ("y", "x", (), ()))

    def test_sides(self):
        choice = program("if x <= f(x)", "x = f(x)", "end")
        told = traits("up f")
        self.check_right(NeverTaken(choice, 0, False), (), told)
        self.check_wrong(NeverTaken(choice, 0, True), (), told)
        self.check_wrong(NeverTaken(choice, 0, False))
        self.check_wrong(NeverTaken(choice, 0, False), ("x", "f(x)", (), ()))
        self.check_right(NeverTaken(choice, 0, True, supposed=[said("f(x) < x")]))
        self.check_wrong(NeverTaken(choice, 0, True, supposed=[said("f(x) <= x")]))
        both = program("if x <= y", "if x <= y", "end", "else", "if x <= y", "end", "end")
        for at, side, right in ((1, True, False), (1, False, True), (2, True, True), (2, False, False), (0, True, False)):
            (self.check_right if right else self.check_wrong)(NeverTaken(both, at, side), SPLIT)

    def test_how_runs_go_on(self):
        for lines, known, right in (("x &= y", "x <= y", True), ("x &= y", "y <= x", True), ("x |= y", "x <= y", True),
                                    ("x |= y", "y <= x", True), ("x &= y", "x <= z", False), ("x |= y", "x <= z", False)):
            self.check_right(NeverRefuses(program(lines), supposed=[said(known)]), () if right else SPLIT)
            if not right:
                self.check_wrong(NeverRefuses(program(lines), supposed=[said(known)]))
        for row, known, end in (("x &= y", "x <= y", "z"), ("x &= y", "y <= x", "y"), ("x |= y", "x <= y", "y"),
                                ("x |= y", "y <= x", "z")):
            claim = Alike(program("z = x", row), program("z = x", "x = " + end), "x", supposed=[said(known)])
            self.check_right(claim)

    def test_rows_of_an_if(self):
        choice = program("if x <= y", "refuse low", "else", "refuse high", "end")
        for known, word in (("x <= y", "low"), ("x == y", "low"), ("x < y", "low"), ("y < x", "high")):
            other = "low" if word == "high" else "high"
            self.check_right(NeverRefuses(choice, other, supposed=[said(known)]))
            self.check_wrong(NeverRefuses(choice, word, supposed=[said(known)]))
        for word in ("low", "high", "no"):
            self.check_wrong(NeverRefuses(choice, word, supposed=[said("y <= x")]))
        self.check_right(NeverRefuses(choice, "no", supposed=[said("y <= x")]), SPLIT)


class Terms(Trees):
    """What stands in a knot."""

    def check_text(self, claim, text, right, told=None):
        check = self.check_right if right else self.check_wrong
        check(claim, (text, "x", (), ()), told)
        check(claim, ("x", text, (), ()), told)

    def test_texts(self):
        claim = always("f(m(x, y)) <= f(m(x, y))", "x <= g(q(x))")
        for text in ("x", "y", "f(x)", "f(f(y))", "m(x, y)", "m(f(x), m(y, y))", "g(m(x, x))", "q(y)", "m(m(y, x), q(q(x)))"):
            self.check_text(claim, text, True)
        for text in ("", " ", "z", "x ", " x", "X", "f", "f()", "f(x", "f(x))", "f(x) ", "f (x)", "f( x)", "f(x )", "f(x, y)",
                     "m(x)", "m(x,y)", "m(x,  y)", "m(x, y, x)", "m(x, y), x", "m", "x'", "d(x)", "e(x)", "lesser(x, y)",
                     "greater(x, x)", "lesser", "x(y)", "f(z)", "f(X)", "end", "end(0, 0, x)", "end(x)", "f(x)\n", "\n", "m(x y)",
                     "(x)", "f[x]", "f(,)", "m(, )", "m(x, )", "1", "f(1)", "x & y", "f(x)f(x)", "xx", "xy", "f(x))", "((x",
                     "if", "else", "f(lesser(x, y))", "least", "greatest", "f(least)", "f(x]", "f(x,", "f(x;",
                     "m(x, y]", "m(x; y)", "m(x,,y)", "m(x--y)", "m(x  y)", "m(x ,y)", "m(x, y(", "f(xy", "f(x(", "'", "x''", "f'(x)", "f(x)'", "f(x')"):
            self.check_text(claim, text, False)

    def test_any_values_as_texts(self):
        claim = always("x <= x")
        for value in anything():
            if value != "x":
                self.check_text(claim, value, False)

    def test_steps_of_the_traits(self):
        claim = always("x <= f(x)", "y <= x")
        for text in ("g(x)", "m(x, g(y))"):
            self.check_wrong(claim, (text, "x", (), ()), traits("up f"))
            self.check_right(claim, (text, "x", (), ()), traits("up f", "mean m", "back g e"))
        self.check_right(claim, ("e(f(y))", "x", (), ()), traits("up f", "below f e"))

    def test_twenty_steps_within_one_another(self):
        claim = always("x <= m(x, x)", "x <= f(x)")
        told = traits("mean m")

        def deep(count):
            inner = "x"
            for _ in range(count):
                inner = f"f({inner})"
            return inner

        self.check_right(claim, (deep(20), "x", (), ()), told)
        self.check_wrong(claim, (deep(21), "x", (), ()), told)
        self.check_wrong(claim, (deep(200), "x", (), ()), told)
        self.check_right(claim, (f"m({deep(19)}, {deep(18)})", deep(20), (), ()), told)
        self.check_wrong(claim, (f"m({deep(19)}, {deep(20)})", "x", (), ()), told)
        self.check_wrong(claim, ("x", f"m(x, {deep(20)})", (), ()), told)
        # Each side by itself may have so many, also where one of the other stands in it.
        self.check_right(claim, (deep(20), deep(12), (deep(20), deep(19), (), ()), ()), told)

    def test_an_end_counts_as_no_step(self):
        text = "end(0, 0, x)"
        for _ in range(20):
            text = f"f({text})"
        claim = always("f(x) <= x", p=LOOP)
        self.check_right(claim, (text, "x", (), ()))
        self.check_wrong(claim, (f"f({text})", "x", (), ()))

    def test_ends_of_loops(self):
        claim = Alike(LOOP, NOTHING)
        for text in ("end(1, 0, x)", "end(0, 1, x)", "end(0, 0, y)", "end(0,0,x)", "end(0, 0, x", "end(0, 0, x) ", "end(00, 0, x)",
                     "end(0, 00, x)", "end( 0, 0, x)", "end(0, 0)", "end()", "end(0, 0, x')", "end(0, 0, f(x))", "end(0, 0, x, y)",
                     "f(end(1, 0, x))", "end(-0, 0, x)", "end(0, 0, x))", "end"):
            self.check_wrong(claim, (text, "x", (), ()))
            self.check_wrong(claim, ("x", text, (), ()))
        for text in ("end(0, 0, x)", "f(end(0, 0, x))", "f(f(end(0, 0, x)))"):
            self.check_right(claim, (text, "x", (), ()))
        for single in (NeverRefuses(LOOP), Always(LOOP, said("x <= x"))):
            self.check_right(single, ("end(0, 0, x)", "x", (), ()))
            self.check_wrong(single, ("end(1, 0, x)", "x", (), ()))
        both = Alike(LOOP, program("x = x", "still", "x |= f(x)", "y |= f(x)", "end"))
        for text in ("end(0, 0, x)", "end(1, 1, x)", "end(1, 1, y)", "f(end(1, 1, y))"):
            self.check_right(both, (text, "x", (), ()))
        for text in ("end(0, 0, y)", "end(1, 0, x)", "end(0, 1, x)"):
            self.check_wrong(both, (text, "x", (), ()))

    def test_ends_are_present_where_a_run_has_come_to_them(self):
        behind = program("if x <= y", "still", "x |= f(x)", "end", "else", "still", "y |= f(y)", "end", "end")
        claim, plain = NeverRefuses(behind), ("x", "y", (), ())
        for end in ("end(0, 1, x)", "end(0, 3, y)"):
            self.check_wrong(claim, (end, "x", plain, plain))
            self.check_wrong(claim, ("x", f"f({end})", plain, plain))
        low, high = ("end(0, 1, x)", "x", (), ()), ("end(0, 3, y)", "x", (), ())
        self.check_right(claim, ("x", "y", low, high))
        self.check_right(claim, ("x", "y", low, ()))
        for one, other in ((high, ()), ((), low), (high, low)):
            self.check_wrong(claim, ("x", "y", one, other))
        # Run 1 begins when run 0 has ended, and run 0 when the suppositions are worked out.
        for stuck in (Alike(program("if x <= y", "end"), LOOP), Alike(NOTHING, LOOP, supposed=[said("lesser(x, y) <= z")])):
            self.check_wrong(stuck, ("end(1, 0, x)", "x", SPLIT, SPLIT))
            self.check_right(stuck, ("x", "y", ("end(1, 0, x)", "x", (), ()), ()))
        self.check_right(Alike(LOOP, program("if x <= y", "end")), ("end(0, 0, x)", "x", SPLIT, SPLIT))
        self.check_wrong(Alike(LOOP, program("if x <= y", "end", "still", "y |= f(y)", "end")),
                         ("end(1, 1, y)", "x", SPLIT, SPLIT))

    def test_the_second_value(self):
        for kind in (Rises, Falls):
            claim = kind(program("y = f(z)"), "y", "x")
            for text in ("x'", "f(x')", "f(f(x'))"):
                self.check_text(claim, text, True)
            for text in ("y'", "z'", "x''", "'x", "x ", "x '", "f(x)'", "f'(x)", "f(y')", "a'", "'"):
                self.check_text(claim, text, False)
        self.check_wrong(always("x <= x", "y <= f(x)"), ("x'", "x", (), ()))
        # The second value is not less, but it may be the same.
        claim = Rises(program("if x <= y", "else", "end"), "z", "x", supposed=[said("x == y")])
        self.check_wrong(claim)
        self.check_right(claim, ("x'", "y", (), ()))
        self.check_wrong(Rises(program("y = x"), "y", "x"), ("x", "x'", (), ("x", "y", (), ())))
        self.check_right(Rises(program("y = x"), "y", "x"), ("x'", "x", (), ()))

    def test_names_and_steps_called_alike(self):
        step, other = Step("x", "+"), Step("y", "++")
        claim = Always(NOTHING, NEVER.__class__(step("y"), "<=", step(other("y", "x"))), supposed=[said("y <= x")])
        told = Traits(Trait("mean", other))
        self.check_right(claim, ("x(y)", "y(y, x(x))", (), ()), told)
        self.check_right(claim, (), told)
        for text in ("x(x(y))", "x(x)", "y(x, y)", "x"):
            self.check_text(claim, text, True, told)
        for text in ("y(x)", "x(x, y)", "x()", "y()", "y(x,y)"):
            self.check_text(claim, text, False, told)


class AnyValues(Trees):

    def test_any_values(self):
        for claim in (always("x <= x"), impossible("x < x"), NeverRefuses(NOTHING), always("x <= f(x)")):
            right = claim.kind != "always" or tree(claim) is not None
            for value in anything() + [(), ("x",), ("x", "x"), ("x", "x", ()), ("x", "x", (), (), ()), [], "()", "so"]:
                expected = right and value.__class__ is tuple and value == ()
                self.assertIs(tree_holds(claim, None, value), expected, (str(claim), value))

    def test_lists_are_no_trees(self):
        claim = always("x <= f(x)", "x <= f(f(x))")
        self.check_right(claim, ("x", "f(x)", (), ()))
        for value in (["x", "f(x)", (), ()], ("x", "f(x)", [], ()), ("x", "f(x)", (), []), ("x", "f(x)", (), None),
                      ("x", "f(x)", (), False), ("x", "f(x)", (), ""), ("x", "f(x)", (), ((),)), ("x", "f(x)", ((),), ()),
                      ("x", "f(x)"), ("x", "f(x)", ()), ("x", "f(x)", (), (), ()), (("x", "f(x)", (), ()),), ("x", ["f(x)"], (), ()),
                      (b"x", "f(x)", (), ()), ("x", "f(x)", 0, 0), ("f(x)", "x", (), ()), ("x", "f(x)", ("x", "f(x)", (), ()), ())):
            self.assertIs(tree_holds(claim, None, value), is_right(claim, None, value), value)
        self.assertIs(tree_holds(claim, None, ("x", "f(x)", ("x", "x", (), ()), ())), True)

    def test_deep_values(self):
        claim = NeverRefuses(program("x = y"))
        for kind in (list, tuple):
            for inner in ((), "x", None):
                self.assertIs(tree_holds(claim, None, nested(inner, 60, kind)), False)
        for inner, right in (((), True), ([], False), (None, False), (("x", "y"), False)):
            one, other = inner, inner
            for _ in range(59):
                one, other = ("x", "y", one, ()), ("x", "y", (), other)
            self.assertIs(tree_holds(claim, None, one), right)
            # Nothing is right where both x < y and y < x are told.
            self.assertIs(tree_holds(claim, None, ("x", "y", (), ("y", "x", inner, ()))), right)
            self.assertIs(tree_holds(claim, None, other), right)
        shown = ()
        for at in range(50):
            shown = ("x", "y", shown, ()) if at else ("y", "x", (), ())
        self.check_right(claim, shown)

    def test_what_is_returned_may_be_passed_on(self):
        claim = Alike(program("x = greater(lesser(x, y), lesser(greater(x, y), z))"),
                      program("x = lesser(greater(x, y), greater(lesser(x, y), z))"), "x")
        shown = tree(claim)
        self.check_right(claim, shown)
        self.assertEqual(tree(claim), shown)

    def test_arguments_by_name(self):
        claim, told = always("x <= f(x)"), traits("up f")
        self.assertEqual(tree(traits=told, claim=claim), ())
        self.assertIsNone(tree(claim=claim))
        self.assertIs(tree_holds(told=(), traits=told, claim=claim), True)
        self.assertIs(tree_holds(claim, told=(), traits=None), False)


def spoilt(shown):
    """Trees that differ from this one at one place."""
    if not shown:
        yield from [("x", "y", (), ()), ("x", "x", (), ()), ("x", "f(x)", (), ()), [], None, "so"]
        return
    left, right, one, other = shown
    yield from [(), one, other, (right, left, one, other), (left, right, other, one), (left, right, one), (left, right, (), other),
                (left, right, one, ()), (right, right, one, other), (left, left, one, other), (left + " ", right, one, other),
                (left, " " + right, one, other), (left, right, other, other), (left, right, one, one), list(shown),
                ("x", right, one, other), (left, "y", one, other), (f"f({left})", right, one, other),
                (left.replace(", ", ","), right, one, other), (left, right.replace("x", "y"), one, other),
                (left, right, shown, other), (left, right, one, shown)]
    yield from [(left, right, inner, other) for inner in spoilt(one)]
    yield from [(left, right, one, inner) for inner in spoilt(other)]


class Made(Trees):

    def check_made(self, making, told, most):
        claim = making.claim()
        told = making.traits(claim, *told)
        shown = tree(claim, told)
        if shown is None:
            return 0
        self.check_right(claim, shown, told)
        changed = list(spoilt(shown))
        making.chance.shuffle(changed)
        for value in changed[:most]:
            self.assertIs(tree_holds(claim, told, value), is_right(claim, told, value), (str(claim), str(told), value))
        return len(changed)

    def test_spoilt_trees(self):
        many = [self.check_made(Claiming(seed, names=("x", "y"), weight=5), (), 12) for seed in range(250)]
        self.assertGreater(len([count for count in many if count > 20]), 20)

    def test_spoilt_trees_with_traits(self):
        for seed in range(120):
            self.check_made(Claiming(seed, [F, G, M], ("x", "y"), weight=4), (("up", "down", "settled", "mean", "below", "back"), 4), 10)

    def test_spoilt_trees_with_loops(self):
        for seed in range(120):
            making = Claiming(seed, [F, G, M], ("x", "y"), weight=8)
            making.rows = lambda depth, making=making: [making.loop() if making.rising() else making.row()]
            self.check_made(making, (("up", "below"), 2), 10)

    def test_a_claim_that_fails_has_no_right_tree(self):
        def splits(*pairs):
            """The tree that compares all these pairs."""
            return (*pairs[0], splits(*pairs[1:]), splits(*pairs[1:])) if pairs else ()

        for claim, told in ((always("x <= f(x)"), None), (always("x <= y", "f(x) <= f(y)"), None),
                            (Alike(NOTHING, program("x |= f(x)"), "x"), traits("settled f")), (NeverRefuses(program("refuse no")), None),
                            (NeverTaken(program("if x <= y", "end"), 0, True), None), (Rises(program("x = q(x)"), "x", "x"), None)):
            self.assertIsNone(tree(claim, told))
            for shown in ((), SPLIT, ("x", "x", (), ()), splits(("x", "y"), ("y", "x")), splits(("x", "f(x)"), ("f(x)", "x")),
                          splits(("f(x)", "f(f(x))"), ("x", "f(x)"), ("f(f(x))", "x"))):
                self.check_wrong(claim, shown, told)

    def test_the_same_call_again(self):
        for seed in range(30):
            making = Claiming(seed, names=("x", "y"), weight=5)
            claim = making.claim()
            told = making.traits(claim)
            before = str(claim), str(told)
            first = tree(claim, told)
            self.assertEqual([tree(claim, told), tree_holds(claim, told, first)], [first, first is not None])
            self.assertEqual((str(claim), str(told)), before)


if __name__ == "__main__":
    unittest.main()
