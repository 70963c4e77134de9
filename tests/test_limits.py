"""Point [3]: claims of four names and a weight of eight are answered in a time in which tests can be run."""

import unittest
from itertools import permutations

from knownways.claims import Alike, Always, Falls, NeverRefuses, NeverTaken, Rises
from knownways.comparisons import Comparison
from knownways.deciding import breach, holds
from knownways.desk import Desk
from knownways.errors import Impossible
from knownways.exprs import named
from knownways.needed import greatest_failing, least_traits
from knownways.reader import read
from knownways.steps import Step
from knownways.traits import Trait, Traits
from knownways.trees import tree, tree_holds
from tests.claiming import Claiming
from tests.test_deciding import Decided

F, G = Step("f", "+"), Step("g", "+")
Q, R, U, M, T = Step("q", "?"), Step("r", "?"), Step("u", "???"), Step("m", "++"), Step("t", "+++")
STEPS = [F, G, Step("h", "+"), Step("k", "+"), Q, R, U, M, T]
NAMES = "wxyz"


def program(*lines):
    return read("\n".join(lines), STEPS)


def mixing(steps, form):
    """Rows that each apply one step and compare all four names."""
    rows = []
    for at, step in enumerate(steps):
        a, b, c, d = [NAMES[(at + place) % 4] for place in range(4)]
        rows.append(form.format(f=step, a=a, b=b, c=c, d=d))
    return program(*rows)


LIGHT = "{a} = greater(lesser({f}({a}), {b}), lesser({c}, {d}))"
HEAVY = "{a} = greater(lesser({f}({a}), greater({b}, {c})), lesser({c}, greater({d}, {a})))"


class Limits(Decided):

    def check_limits(self, claim, size, told=None):
        """The claim is at the limits, and fails in a world of so many values (None: it holds)."""
        self.assertEqual((len(claim.names), claim.weight), (4, 8))
        found = self.check_decided_without_worlds(claim, told)
        self.assertEqual(None if found is None else found.world.size, size, str(claim))

    def check_decided_without_worlds(self, claim, told):
        found, shown = breach(claim, told), tree(claim, told)
        self.assertEqual((holds(claim, told), shown is None), (found is None, found is not None))
        if found is None:
            self.assertTrue(tree_holds(claim, told, shown))
        else:
            self.check_breach(claim, told, found)
        return found

    def test_rows_that_mix(self):
        same = Comparison("x", "<=", "x")
        for steps in ("qqqqqqqq", "qrqrqrqr", "ffffffff", "fghkfghk"):
            for form in (LIGHT, HEAVY):
                self.check_limits(Always(mixing(steps, form), same), None)
                self.check_limits(Always(mixing(steps, form), Comparison("x", "<=", "y")), 2)

    def test_rising_and_falling_runs(self):
        rows = mixing("fgh", LIGHT)
        supposed = [Comparison("y", "<=", F("z"))]
        for out, into in permutations("wxyz", 2):
            self.check_limits(Rises(rows, out, into, supposed=supposed), None)
        self.check_limits(Falls(rows, "w", "w", supposed=supposed), 2)
        self.check_limits(Falls(rows, "z", "y", supposed=supposed), None)
        rows = mixing("fgq", LIGHT)
        self.check_limits(Rises(rows, "w", "y", supposed=supposed), None)
        self.check_limits(Rises(rows, "y", "y", supposed=supposed), 3)

    def test_runs_beside_one_another(self):
        one = program("x = f(greater(x, y))", "y = g(lesser(z, w))", "z |= f(x)", "w &= g(y)")
        other = program("x = greater(f(x), f(y))", "y = lesser(g(z), g(w))", "z |= x", "w &= y")
        self.assertEqual(one.weight, 4)
        self.check_limits(Alike(one, other, "x", "y"), None)
        self.check_limits(Alike(one, other, "x", "y", "z"), 3)

    def test_many_values(self):
        less = [Comparison("w", "<", "x"), Comparison("x", "<", "y"), Comparison("y", "<", "z"),
                Comparison("z", "<", F("z")), Comparison(G("w"), "<", "w"), Comparison(G(G("w")), "<", G("w")),
                Comparison(F("z"), "<", F(F("z")))]
        self.check_limits(NeverRefuses(program("refuse no"), supposed=less), 8)
        self.check_limits(NeverRefuses(program("refuse no"), supposed=less), None, Traits(Trait("settled", F)))
        self.check_limits(NeverRefuses(program("refuse no"), supposed=less), None,
                          Traits(Trait("below", F, G), Trait("up", F)))
        self.check_limits(NeverRefuses(program("refuse no"), supposed=less), 8, Traits(Trait("below", F, G)))

    def test_unlike_results(self):
        # All unlike results of a step of which nothing is known ask for unlike arguments.
        terms = [U(*places) for places in list(permutations(NAMES, 3))[:7]]
        less = [Comparison(low, "<", high) for low, high in zip(terms, terms[1:5])]
        claim = Always(program(), Comparison("x", "<", "x"), supposed=less)
        self.check_limits(claim, 5)
        self.check_limits(Always(program(), Comparison("x", "<", "x"), supposed=less[:3] + [Comparison(Q("x"), "<", Q("y"))]), 4)

    def test_means(self):
        nested = M(M("w", "x"), M("y", "z"))
        most = ("w" | named("x")) | ("y" | named("z"))
        supposed = [Comparison(M(M(M("w", "x"), "y"), M("x", "y")), "<=", "z"), Comparison(M("x", "x"), "<=", "w")]
        claim = Always(program(), Comparison(nested, "<=", most), supposed=supposed)
        self.check_limits(claim, None, Traits(Trait("mean", M), Trait("alike", M)))
        self.check_limits(claim, 3, Traits(Trait("alike", M)))

    def test_loops(self):
        loop = program("still", "x |= t(x, y, z)", "y |= t(y, z, w)", "end")
        turned = program("still", "y |= t(y, z, w)", "x |= t(x, y, z)", "end")
        self.check_limits(Alike(loop, turned, "w", "x", "y", "z"), None)
        other = program("still", "y |= t(y, w, z)", "x |= t(x, y, z)", "end")
        self.check_limits(Alike(loop, other, "w", "x", "y", "z"), 2)
        self.check_limits(Alike(loop, other, "w", "x", "y", "z"), 2, Traits(Trait("below", T, Step("s", "+++"))))
        deep = program("still", "x |= f(y)", "y |= g(x)", "end", "still", "z |= f(w)", "w |= g(z)", "end")
        self.check_limits(NeverTaken(deep + program("if z <= z", "else", "x = y", "end"), 6, False), None)
        self.check_limits(Always(deep, Comparison("x", "<=", "z"), supposed=[Comparison("x", "<=", "z"), Comparison("y", "<=", "w")]), None)
        self.check_limits(Always(deep, Comparison("x", "<=", "z"), supposed=[Comparison("x", "<=", "z")]), 2)

    def test_needed_traits(self):
        rows = mixing("fghk", LIGHT) + mixing("fg", LIGHT)
        f, g, h, k = STEPS[:4]
        told = Traits(Trait("up", f), Trait("up", g), Trait("below", f, h), Trait("below", g, k), Trait("up", h))
        claim = Always(rows, Comparison(F("x"), "<=", F(F("x"))), supposed=[])
        self.assertEqual((len(claim.names), claim.weight), (4, 9))
        self.assertEqual(least_traits(claim, told), (Traits(Trait("up", f)),))
        self.assertEqual([len(one) for one in greatest_failing(claim, told)], [4])
        claim = NeverRefuses(rows + program("if lesser(x, y) <= greater(z, w)", "else", "refuse no", "end"),
                             supposed=[Comparison("x", "<=", F("y")), Comparison("y", "<=", G("x"))])
        self.assertEqual((len(claim.names), claim.weight), (4, 8))
        for call in (least_traits, greatest_failing):
            for one in call(claim, told):
                self.assertIs(holds(claim, one), call is least_traits)

    def test_desks(self):
        desk = Desk(Traits(Trait("up", F), Trait("below", F, G)))
        for low, high in (("w", F("x")), (F("x"), "y"), ("y", F("z")), (F(F("z")), G("w")), (G("w"), G("y"))):
            desk.suppose(Comparison(low, "<=", high))
        self.assertEqual((desk.compare("x", "y"), desk.compare("w", "y"), desk.compare("x", "w"), desk.compare("z", G("y"))),
                         ("<=", "<=", "?", "<="))
        claim = Always(program("x |= f(w)"), Comparison("x", "<=", F("y")))
        whole = claim.under(*desk.supposed)
        self.assertEqual((len(whole.names), whole.weight), (4, 10))
        self.assertIs(desk.holds(claim), True)
        self.assertEqual(desk.breach(Always(program(), Comparison("x", "<", "y"))).world.size, 1)
        with self.assertRaises(Impossible):
            desk.suppose(Comparison(G("y"), "<", "z"))

    def test_made_claims(self):
        counted = 0
        for seed in range(120):
            making = Claiming(seed, pool=STEPS, names=tuple(NAMES), weight=8)
            claim = making.claim()
            while claim.weight < 7:
                claim = making.claim()
            counted += self.check_decided_without_worlds(claim, making.traits(claim)) is None
        self.assertGreater(counted, 20)


if __name__ == "__main__":
    unittest.main()
