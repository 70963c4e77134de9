"""Points [20], [21], [23], [24]: what claims are made of."""

import unittest

from knownways.claims import Alike, Always, Claim, Falls, NeverAbove, NeverRefuses, NeverTaken, Rises
from knownways.comparisons import Comparison
from knownways.errors import InvalidClaim, NoRow
from knownways.programs import Program
from knownways.rows import If, Put, Raise, Refuse, Still
from knownways.steps import Step
from tests.claiming import Claiming
from tests.helpers import F, G, H, Case, anything, no_names, package_objects, plain_values

UNLIKE_F = Step("f", "-")
P = Program([Put("x", F("y")), If("x", G("z"), [Refuse("no")], [Refuse("bad"), Put("x", F(F("x")))])])
Q = Program([Still([Raise("x", F("x")), Raise("x", F("a"))])])
SAID = Comparison(H("c", "x"), "<", "b")


def each_claim(p=P, q=Q, supposed=()):
    """One claim of each kind."""
    return [Alike(p, q, "x", "a", supposed=supposed), NeverAbove(p, q, "x", supposed=supposed),
            Rises(p, "x", "y", supposed=supposed), Falls(p, "x", "y", supposed=supposed),
            NeverRefuses(p, "no", supposed=supposed), Always(p, Comparison("x", "<", F("y")), supposed=supposed),
            NeverTaken(p, 1, True, supposed=supposed)]


def no_comparisons():
    return [value for value in anything() if not isinstance(value, Comparison)]


class Made(Case):

    def test_attributes(self):
        alike, above, rises, falls, refuses, always, taken = each_claim()
        self.assertEqual((alike.p, alike.q, alike.wanted), (P, Q, ("a", "x")))
        self.assertEqual((above.p, above.q, above.name), (P, Q, "x"))
        self.assertEqual((rises.p, rises.out, rises.into), (P, "x", "y"))
        self.assertEqual((falls.p, falls.out, falls.into), (P, "x", "y"))
        self.assertEqual((refuses.p, refuses.words), (P, ("no",)))
        self.assertEqual((always.p, always.comparison), (P, Comparison("x", "<", F("y"))))
        self.assertEqual((taken.p, taken.at, taken.side), (P, 1, True))
        self.assertIs(NeverTaken(P, 1, False).side, False)
        for claim in each_claim():
            self.assertEqual((claim.supposed, type(claim.names), type(claim.steps)), ((), tuple, tuple))

    def test_words_and_names_each_once_ascending(self):
        claim = NeverRefuses(P, "no", "b", "no", "a", "b", "zzzz")
        self.assertEqual(claim.words, ("a", "b", "no", "zzzz"))
        claim = Alike(P, Q, "z", "x", "z", "aa", "x")
        self.assertEqual(claim.wanted, ("aa", "x", "z"))
        self.assertEqual((NeverRefuses(P).words, Alike(P, Q).wanted), ((), ()))

    def test_names_and_steps(self):
        for claim, names in zip(each_claim(), ("axyz", "axyz", "xyz", "xyz", "xyz", "xyz", "xyz")):
            self.assertEqual((claim.names, claim.steps), (tuple(names), (F, G)))
        for claim, names in zip(each_claim(supposed=[SAID]), ("abcxyz", "abcxyz", *["bcxyz"] * 5)):
            self.assertEqual((claim.names, claim.steps), (tuple(names), (F, G, H)))
        nothing = Program()
        self.assertEqual(Alike(nothing, nothing, "x", "b").names, ("b", "x"))
        self.assertEqual(NeverAbove(nothing, nothing, "q").names, ("q",))
        self.assertEqual(Rises(nothing, "q", "c").names, ("c", "q"))
        self.assertEqual(Falls(nothing, "q", "c").names, ("c", "q"))
        self.assertEqual(NeverRefuses(nothing, "no").names, ())
        claim = Always(nothing, Comparison(F("b"), "<", G("a")))
        self.assertEqual((claim.names, claim.steps), (("a", "b"), (F, G)))
        self.assertEqual(NeverAbove(nothing, Program([Put("x", F("y"))]), "x").steps, (F,))

    def test_supposed(self):
        other = Comparison("x", "<=", "y")
        for told in ([SAID, other], (SAID, other)):
            for claim in each_claim(supposed=told):
                self.assertEqual(claim.supposed, (SAID, other))
                self.assertIs(type(claim.supposed), tuple)

    def test_supposed_is_kept_apart(self):
        told = [SAID]
        claims = each_claim(supposed=told)
        told.append(SAID)
        told[0] = Comparison("x", "<", "y")
        for claim in claims:
            self.assertEqual(claim.supposed, (SAID,))

    def test_arguments_by_name(self):
        self.check_equal(NeverAbove(name="x", q=Q, p=P, supposed=[SAID]), NeverAbove(P, Q, "x", supposed=[SAID]))
        self.check_equal(Rises(into="y", p=P, out="x"), Rises(P, "x", "y"))
        self.check_equal(Falls(into="y", supposed=(), p=P, out="x"), Falls(P, "x", "y"))
        self.check_equal(Always(comparison=SAID, p=P), Always(P, SAID))
        self.check_equal(NeverTaken(side=False, supposed=[SAID], at=1, p=P), NeverTaken(P, 1, False, supposed=[SAID]))
        self.check_equal(NeverRefuses(p=P, supposed=[SAID]), NeverRefuses(P, supposed=[SAID]))
        self.check_equal(Alike(q=Q, p=P, supposed=[SAID]), Alike(P, Q, supposed=[SAID]))

    def test_supposed_by_name_only(self):
        for call, values in ((NeverAbove, (P, Q, "x")), (Rises, (P, "x", "y")), (Falls, (P, "x", "y")), (Always, (P, SAID)),
                             (NeverTaken, (P, 1, True))):
            with self.assertRaises(TypeError):
                call(*values, [SAID])
        self.check_error(InvalidClaim, "name", Alike, P, Q, [SAID])
        self.check_error(InvalidClaim, "name", NeverRefuses, P, [SAID])

    def test_listed(self):
        for claim in each_claim():
            self.assertIsInstance(claim, Claim)
            self.assertEqual(claim.__class__.__bases__, (Claim,))
            self.assertEqual(claim.__class__.__module__, "knownways.claims")
            self.check_listed(claim, (), ("p", "supposed", "names", "steps", "weight"))
        for method in ("under", "fails", "__eq__", "__str__"):
            self.assertIn(method, vars(Claim))


class Texts(Case):

    def test_first_lines(self):
        nothing = Program()
        lines = [str(claim).split("\n")[0] for claim in each_claim()]
        self.assertEqual(lines, ["alike a x", "above x", "rises x y", "falls x y", "refuses no", "always x < f(y)",
                                 "taken 1 rows"])
        for claim, expected in ((NeverRefuses(nothing), "refuses"), (NeverRefuses(nothing, "b", "a"), "refuses a b"),
                                (Rises(nothing, "b", "a"), "rises b a"), (Falls(nothing, "b", "a"), "falls b a"),
                                (Always(nothing, Comparison("x", "==", "y")), "always x == y"),
                                (NeverTaken(P, 1, False), f"taken 1 others\n{P}"),
                                (NeverTaken(Program([If("x", "y", [])]), 0, False), "taken 0 others\nif x <= y\nend"),
                                (Alike(nothing, nothing), "alike\nagainst"),
                                (Alike(nothing, nothing, "y", "x", "y"), "alike x y\nagainst"),
                                (NeverAbove(P, nothing, "x"), f"above x\n{P}\nagainst")):
            self.assertEqual(str(claim), expected)

    def test_all_lines(self):
        second = Comparison("x", "==", F("x"))
        for claim in each_claim(supposed=[SAID, second]):
            first = str(claim).split("\n")[0]
            lines = [first, "suppose h(c, x) < b", "suppose x == f(x)", *str(P).split("\n")]
            if isinstance(claim, (Alike, NeverAbove)):
                lines += ["against", "still", "x |= f(x)", "x |= f(a)", "end"]
            self.assertEqual(str(claim), "\n".join(lines))

    def test_an_empty_program_has_no_lines(self):
        for claim in (NeverRefuses(Program(), supposed=[SAID]), Rises(Program(), "x", "y", supposed=[SAID])):
            self.assertEqual(len(str(claim).split("\n")), 2)
        self.assertEqual(str(Alike(Program(), Q, "x", supposed=[SAID])),
                         f"alike x\nsuppose h(c, x) < b\nagainst\n{Q}")


class Weights(Case):

    def test_weights(self):
        # P has 1 for its Put, 1 for the sides of its If, and 2 for its others; Q 2 rows and 1 name.
        self.assertEqual((P.weight, Q.weight), (4, 3))
        for supposed, more in (([], 0), ([SAID], 1), ([SAID, Comparison(F(F("x")), "<", G("x"))], 4)):
            weights = [claim.weight for claim in each_claim(supposed=supposed)]
            self.assertEqual(weights, [7 + more, 7 + more, 9 + more, 9 + more, 4 + more, 5 + more, 4 + more])

    def test_steps_count_as_often_as_they_stand(self):
        claim = Always(Program(), Comparison(H(F("x"), F("x")), "<", F("x") & F("x")))
        self.assertEqual((claim.weight, claim.steps), (5, (F, H)))
        self.assertEqual(Rises(Program(), "x", "x").weight, 1)
        self.assertEqual(Alike(Program(), Program(), "x").weight, 0)
        self.assertEqual(Alike(P, P).weight, 8)


class Under(Case):

    def test_suppositions_are_added_behind(self):
        one, other, third = SAID, Comparison("x", "<", F("d")), Comparison("x", "==", "y")
        for before in ([], [third]):
            for claim, expected in zip(each_claim(supposed=before), each_claim(supposed=[*before, one, other])):
                made = claim.under(one, other)
                self.check_equal(made, expected)
                self.assertEqual((made.supposed, made.names, made.steps, made.weight, str(made)),
                                 ((*before, one, other), expected.names, expected.steps, expected.weight, str(expected)))
                self.check_equal(made, claim.under(one).under(other))
                self.assertIs(made.__class__, claim.__class__)
                self.assertEqual(claim.supposed, tuple(before))
                self.check_equal(claim.under(), claim)
                self.check_unlike(made, claim.under(other, one))

    def test_refusals(self):
        unlike = Comparison(UNLIKE_F("x"), "<", "x")
        for claim in each_claim():
            for value in no_comparisons():
                self.check_error(InvalidClaim, "comparison", claim.under, value)
            for value in ([SAID], (SAID,), None, "x", Put("x", "y")):
                self.check_error(InvalidClaim, "comparison", claim.under, SAID, value)
                self.check_error(InvalidClaim, "comparison", claim.under, value, SAID)
                self.check_error(InvalidClaim, "comparison", claim.under, unlike, value)
            self.check_error(InvalidClaim, "step", claim.under, unlike)
            self.check_error(InvalidClaim, "step", claim.under, SAID, unlike)
            self.assertEqual(claim.supposed, ())


class Equality(Case):

    def test_equal_ones_made_again(self):
        again = Program([Put("x", F("y")), If("x", G("z"), [Refuse("no")], [Refuse("bad"), Put("x", F(F("x")))])])
        for one, other in zip(each_claim(supposed=[SAID]), each_claim(again, Q, (SAID,))):
            self.check_equal(one, other)
        self.check_equal(Alike(P, Q, "x", "a"), Alike(P, Q, "a", "x", "a"))
        self.check_equal(NeverRefuses(P, "no", "a"), NeverRefuses(P, "a", "no", "no"))

    def test_unlike_ones(self):
        nothing, x_less = Program(), Comparison("x", "<", "y")
        choice = Program([If("x", "y", []), If("x", "y", [])])
        self.check_all_unlike([
            *each_claim(), *each_claim(supposed=[SAID]), *each_claim(supposed=[SAID, SAID]), *each_claim(nothing + P * 2),
            Alike(P, Q), Alike(Q, P, "a", "x"), Alike(P, P, "a", "x"), Alike(P, Q, "x"), Alike(P, Q, "a", "x", "y"),
            NeverAbove(Q, P, "x"), NeverAbove(P, Q, "y"), NeverAbove(nothing, nothing, "x"), Alike(nothing, nothing, "x"),
            Rises(nothing, "x", "y"), Falls(nothing, "x", "y"), Rises(nothing, "y", "x"), Falls(nothing, "x", "x"),
            NeverRefuses(nothing), NeverRefuses(nothing, "x"), NeverRefuses(nothing, "x", "y"), NeverRefuses(P),
            Always(nothing, x_less), Always(nothing, SAID), Always(P, x_less), NeverRefuses(nothing, supposed=[x_less]),
            NeverTaken(choice, 0, True), NeverTaken(choice, 1, True), NeverTaken(choice, 0, False), P, Q, SAID, None, (), "x",
            0, True, *package_objects()[:4]])

    def test_the_order_of_suppositions_counts(self):
        one, other = Comparison("x", "<", "y"), Comparison("x", "<=", "y")
        for claim, turned in zip(each_claim(supposed=[one, other]), each_claim(supposed=[other, one])):
            self.check_unlike(claim, turned)

    def test_made_ones(self):
        made, again, other = Claiming(3), Claiming(3), Claiming(4)
        claims = [made.claim() for _ in range(60)]
        for claim in claims:
            self.check_equal(claim, again.claim())
        for claim in [other.claim() for _ in range(60)]:
            self.assertEqual([claim == one for one in claims], [str(claim) == str(one) and claim.steps == one.steps
                                                                for one in claims])


class Refused(Case):

    def test_names(self):
        for value in no_names():
            self.check_error(InvalidClaim, "name", NeverAbove, P, Q, value)
            self.check_error(InvalidClaim, "name", Rises, P, value, "x")
            self.check_error(InvalidClaim, "name", Rises, P, "x", value)
            self.check_error(InvalidClaim, "name", Falls, P, value, "x")
            self.check_error(InvalidClaim, "name", Falls, P, "x", value)
            for kept in ((), ("x",)):
                self.check_error(InvalidClaim, "name", Alike, P, Q, *kept, value)
                self.check_error(InvalidClaim, "name", Alike, P, Q, value, *kept)
                self.check_error(InvalidClaim, "name", NeverRefuses, P, *kept, value)
                self.check_error(InvalidClaim, "name", NeverRefuses, P, value, *kept)

    def test_comparisons(self):
        for value in no_comparisons():
            self.check_error(InvalidClaim, "comparison", Always, P, value)

    def each_call(self, p=P):
        return [(Alike, (p, Q, "x")), (NeverAbove, (p, Q, "x")), (Rises, (p, "x", "y")), (Falls, (p, "x", "y")),
                (NeverRefuses, (p, "no")), (Always, (p, SAID)), (NeverTaken, (p, 1, True))]

    def test_supposed(self):
        for call, values in self.each_call():
            for value in no_comparisons():
                if value not in ([], ()):
                    self.check_error(InvalidClaim, "comparison", call, *values, supposed=value)
                self.check_error(InvalidClaim, "comparison", call, *values, supposed=[value])
                self.check_error(InvalidClaim, "comparison", call, *values, supposed=(SAID, value))
            self.check_error(InvalidClaim, "comparison", call, *values, supposed=SAID)
            self.check_error(InvalidClaim, "comparison", call, *values, supposed={})
            self.check_equal(call(*values, supposed=[]), call(*values, supposed=()))

    def test_rows(self):
        program = Program([Put("x", "y"), Still([Raise("x", F("y"))]), If("x", "y", [If("x", "y", []), Refuse("no")])])
        for at in (*range(-8, 2), 2, *range(3, 12), 10 ** 30, -10 ** 30):
            if at in (3, 4):
                self.assertEqual(NeverTaken(program, at, True).at, at)
            else:
                self.check_error(NoRow, at, NeverTaken, program, at, True)
                self.check_error(NoRow, at, NeverTaken, program, at, False)

    def test_steps(self):
        unlike = Program([If("x", UNLIKE_F("y"), [])])
        claims = [(Alike, (P, unlike)), (Alike, (unlike, P)), (NeverAbove, (unlike, P, "x")), (NeverAbove, (P, unlike, "x")),
                  (Always, (P, Comparison(UNLIKE_F("x"), "<", "x"))),
                  (Always, (unlike, Comparison("x", "<", F("x")))),
                  (Always, (Program(), Comparison("x", "<", UNLIKE_F(F("x")))))]
        for call, values in claims:
            self.check_error(InvalidClaim, "step", call, *values)
        for call, values in self.each_call():
            self.check_error(InvalidClaim, "step", call, *values, supposed=[Comparison(UNLIKE_F("x"), "<", "x")])
        self.check_error(InvalidClaim, "step", NeverRefuses, Program(),
                         supposed=[Comparison("x", "<", F("x")), Comparison("x", "<", Step("f", "++")("x", "x"))])

    def test_the_first_in_order(self):
        unlike = [Comparison(UNLIKE_F("x"), "<", "x")]
        for call, values in self.each_call()[:5]:
            self.check_error(InvalidClaim, "name", call, *values[:-1], "X", supposed=None)
            self.check_error(InvalidClaim, "name", call, *values[:-1], "X", supposed=unlike)
        for call, values in self.each_call():
            self.check_error(InvalidClaim, "comparison", call, *values, supposed=[*unlike, None])
        self.check_error(InvalidClaim, "comparison", Always, P, None, supposed=unlike)
        self.check_error(InvalidClaim, "comparison", NeverTaken, P, 99, True, supposed=[None])
        self.check_error(NoRow, 0, NeverTaken, P, 0, True, supposed=unlike)
        self.check_error(NoRow, 99, NeverTaken, P, 99, True, supposed=unlike)

    def test_the_errors_keep_their_arguments(self):
        with self.assertRaises(NoRow) as caught:
            NeverTaken(P, -1, True)
        self.assertEqual(vars(caught.exception), {"at": -1})
        for value in plain_values()[:5]:
            with self.assertRaises(InvalidClaim) as caught:
                Rises(P, value, value)
            self.assertEqual(vars(caught.exception), {"word": "name"})


if __name__ == "__main__":
    unittest.main()
