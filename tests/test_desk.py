"""Points [36] to [38]: desks, and blocks at them."""

import unittest
from itertools import product

from knownways.claims import Alike, Always, NeverAbove, NeverRefuses, NeverTaken, Rises
from knownways.comparisons import Comparison
from knownways.deciding import breach, holds
from knownways.desk import Desk
from knownways.errors import Impossible, InvalidClaim, InvalidExpr
from knownways.exprs import named
from knownways.programs import Program
from knownways.steps import Step
from knownways.traits import Trait, Traits
from tests.claiming import Claiming
from tests.helpers import Case, anything, no_parts
from tests.test_deciding import F, G, NOTHING, always, program, said, traits

UNLIKE = Comparison("x", "<", Step("f", "++")("x", "y"))
MEAN_F = Traits(Trait("mean", Step("f", "++")))


def no_comparisons():
    return [value for value in anything() if not isinstance(value, Comparison)]


def desk_of(*supposed, told=()):
    made = Desk(traits(*told))
    for one in supposed:
        made.suppose(said(one))
    return made


class AtDesks(Case):

    def check_desk(self, desk, told, *supposed):
        """The desk keeps just these traits and suppositions."""
        self.assertEqual((desk.traits, desk.supposed, len(desk)),
                         (traits(*told), tuple([said(one) for one in supposed]), len(supposed)))
        self.assertIs(type(desk.supposed), tuple)


class Kept(AtDesks):

    def test_new_desks(self):
        for desk in (Desk(), Desk(None), Desk(Traits()), Desk(traits=None)):
            self.check_desk(desk, [])
        self.check_desk(Desk(traits("up f", "mean m")), ["up f", "mean m"])
        self.check_desk(Desk(traits=traits("up f")), ["up f"])
        self.assertIsInstance(Desk().traits, Traits)

    def test_listed(self):
        desk = Desk()
        self.check_listed(desk, ("__init__", "traits", "change_traits", "suppose", "take_back", "supposing", "within", "compare",
                                 "is_sure", "holds", "breach", "__len__"), ("supposed",))
        self.assertIsInstance(vars(Desk)["traits"], property)

    def test_suppose(self):
        desk = Desk()
        self.assertIsNone(desk.suppose(said("x <= y")))
        self.check_desk(desk, [], "x <= y")
        self.assertIsNone(desk.suppose(comparison=said("f(x) < y")))
        self.check_desk(desk, [], "x <= y", "f(x) < y")
        desk.suppose(said("x <= y"))
        self.check_desk(desk, [], "x <= y", "f(x) < y", "x <= y")

    def test_take_back(self):
        desk = desk_of("x <= y", "y < z", told=["up f"])
        self.assertIs(desk.take_back(), True)
        self.check_desk(desk, ["up f"], "x <= y")
        self.assertIs(desk.take_back(), True)
        self.check_desk(desk, ["up f"])
        for _ in range(3):
            self.assertIs(desk.take_back(), False)
            self.check_desk(desk, ["up f"])
        desk.suppose(said("x < y"))
        self.check_desk(desk, ["up f"], "x < y")

    def test_traits_are_set(self):
        desk = desk_of("x < f(x)", told=["up f"])
        desk.traits = traits("settled f", "down g")
        self.check_desk(desk, ["settled f", "down g"], "x < f(x)")
        self.assertIsNone(desk.change_traits(traits("up g")))
        self.check_desk(desk, ["up g"], "x < f(x)")
        desk.change_traits(traits=Traits())
        self.check_desk(desk, [], "x < f(x)")
        desk.traits = desk.traits | traits("up f")
        self.check_desk(desk, ["up f"], "x < f(x)")
        desk.traits = None
        self.check_desk(desk, [], "x < f(x)")
        desk.change_traits(None)
        self.check_desk(desk, [], "x < f(x)")

    def test_what_was_returned_stays_as_it_was(self):
        desk = desk_of("x <= y", told=["up f"])
        supposed, told = desk.supposed, desk.traits
        desk.suppose(said("y < z"))
        desk.change_traits(traits("down g"))
        self.assertEqual((supposed, told), ((said("x <= y"),), traits("up f")))
        self.assertEqual(str(told), "up f")

    def test_two_desks(self):
        one, other = Desk(traits("up f")), Desk()
        one.suppose(said("x < y"))
        self.check_desk(other, [])
        other.traits = one.traits
        other.suppose(said("y < x"))
        self.check_desk(one, ["up f"], "x < y")
        self.check_desk(other, ["up f"], "y < x")


class Refused(AtDesks):

    def setUp(self):
        self.desk = desk_of("x <= f(y)", "y < z", told=["up f"])

    def check_refused(self, kind, word, call, *values):
        if kind is Impossible:
            with self.assertRaises(Impossible) as caught:
                call(*values)
            self.assertEqual((caught.exception.__class__, vars(caught.exception)), (Impossible, {}))
        else:
            self.check_error(kind, word, call, *values)
        self.check_desk(self.desk, ["up f"], "x <= f(y)", "y < z")

    def set_traits(self, told):
        self.desk.traits = told

    def test_values_that_are_no_comparisons(self):
        for value in no_comparisons():
            self.check_refused(InvalidClaim, "comparison", self.desk.suppose, value)
            self.check_refused(InvalidClaim, "comparison", self.desk.is_sure, value)
            self.check_refused(InvalidClaim, "comparison", self.desk.within, value, len)
            self.check_refused(InvalidClaim, "comparison", self.enter, value)

    def enter(self, value):
        with self.desk.supposing(value):
            self.fail("the block is entered")

    def test_steps(self):
        unlike = [UNLIKE, Comparison(Step("f", "-")("x"), "<", F("x")), Comparison(F("x"), "<", Step("f", "?")("x")),
                  Comparison("x", "<", Step("f", "-")(G("x")))]
        for one in unlike:
            self.check_refused(InvalidClaim, "step", self.desk.suppose, one)
            self.check_refused(InvalidClaim, "step", self.desk.is_sure, one)
            self.check_refused(InvalidClaim, "step", self.desk.compare, one.left, one.right)
            self.check_refused(InvalidClaim, "step", self.enter, one)
            self.check_refused(InvalidClaim, "step", self.desk.holds, Always(NOTHING, Comparison("x", "<", Step("f", "-")("x"))))
            self.check_refused(InvalidClaim, "step", self.desk.breach, Always(NOTHING, Comparison("x", "<", Step("f", "-")("x"))))
        for call in (self.desk.change_traits, self.set_traits):
            self.check_refused(InvalidClaim, "step", call, MEAN_F)
            self.check_refused(InvalidClaim, "step", call, Traits(Trait("alike", Step("f", "??")), Trait("up", G)))

    def test_steps_of_the_traits(self):
        desk = Desk(traits("up f"))
        for call in (desk.suppose, desk.is_sure):
            self.check_error(InvalidClaim, "step", call, UNLIKE)
        self.check_error(InvalidClaim, "step", desk.compare, UNLIKE.left, UNLIKE.right)
        self.check_error(InvalidClaim, "step", desk.holds, Always(NOTHING, UNLIKE))
        self.check_error(InvalidClaim, "step", desk.breach, Always(NOTHING, UNLIKE))
        self.check_desk(desk, ["up f"])
        desk = Desk()
        desk.suppose(UNLIKE)
        self.check_error(InvalidClaim, "step", desk.change_traits, traits("up f"))
        self.check_error(InvalidClaim, "step", desk.suppose, said("f(x) < x"))
        self.check_error(InvalidClaim, "step", desk.holds, always("f(x) <= x"))
        desk.take_back()
        desk.change_traits(traits("up f"))
        self.check_desk(desk, ["up f"])

    def test_impossible_suppositions(self):
        for one in ("x < x", "z <= y", "f(y) < y", "z == y", "f(y) < x", "f(f(y)) < x", "y < y"):
            self.check_refused(Impossible, None, self.desk.suppose, said(one))
            self.check_refused(Impossible, None, self.enter, said(one))
            self.check_refused(Impossible, None, self.desk.within, said(one), len)
        desk = Desk()
        with self.assertRaises(Impossible):
            desk.suppose(said("x < x"))
        self.check_desk(desk, [])

    def test_traits_with_which_the_suppositions_are_impossible(self):
        self.desk.suppose(said("f(z) < f(f(z))"))
        for call in (self.desk.change_traits, self.set_traits):
            for told in (traits("settled f"), traits("down f"), traits("below f g", "down g"), traits("up f", "down f")):
                with self.assertRaises(Impossible):
                    call(told)
                self.check_desk(self.desk, ["up f"], "x <= f(y)", "y < z", "f(z) < f(f(z))")
            call(traits("up f", "below f g"))
            call(traits("up f"))

    def test_sides(self):
        for value in no_parts():
            self.check_refused(InvalidExpr, "part", self.desk.compare, value, "x")
            self.check_refused(InvalidExpr, "part", self.desk.compare, UNLIKE.right, value)
            self.check_refused(InvalidExpr, "part", self.desk.compare, value, value)

    def test_claims(self):
        loop = NeverRefuses(program("still", "x |= g(x)", "end"))
        for call in (self.desk.holds, self.desk.breach):
            self.check_refused(InvalidClaim, "step", call, NeverRefuses(program(), supposed=[UNLIKE]))
        desk = desk_of("x <= f(y)", told=["settled g"])
        for call in (desk.holds, desk.breach):
            self.check_error(InvalidClaim, "loop", call, loop)
            self.check_error(InvalidClaim, "step", call, loop.under(UNLIKE))
            self.check_error(InvalidClaim, "step", call, loop.under(Comparison("x", "<", Step("f", "-")("x"))))
        self.check_desk(desk, ["settled g"], "x <= f(y)")

    def test_the_first_in_order(self):
        self.check_refused(InvalidClaim, "step", self.desk.suppose, Comparison(UNLIKE.right, "<", UNLIKE.right))
        for call in (self.desk.change_traits, self.set_traits):
            self.check_refused(InvalidClaim, "step", call, MEAN_F | traits("down g"))
        self.check_refused(InvalidExpr, "part", self.desk.compare, Step("f", "-")("x"), 3)


class Answers(AtDesks):

    def test_is_sure(self):
        desk = desk_of("f(x) <= y", told=["up f"])
        for text, expected in (("x <= y", True), ("x < y", False), ("f(x) <= y", True), ("y <= x", False), ("x <= f(y)", True),
                               ("f(f(x)) <= f(y)", True), ("x == x", True), ("x == y", False), ("z <= z", True), ("z <= x", False),
                               ("lesser(x, y) == x", True), ("greater(x, y) == x", False)):
            self.assertIs(desk.is_sure(said(text)), expected, text)
        self.assertIs(desk.is_sure(comparison=said("x <= y")), True)
        self.check_desk(desk, ["up f"], "f(x) <= y")
        desk.take_back()
        self.assertIs(desk.is_sure(said("x <= y")), False)
        desk.traits = Traits()
        desk.suppose(said("f(x) <= y"))
        self.assertIs(desk.is_sure(said("x <= y")), False)

    def test_compare(self):
        for supposed, expected in ((["x == y"], "=="), (["x <= y", "y <= x"], "=="), (["x < y"], "<"), (["x <= y"], "<="),
                                   (["y < x"], ">"), (["y <= x"], ">="), ([], "?"), (["x <= z", "z < y"], "<"), (["x <= z"], "?"),
                                   (["f(x) < f(y)"], "<"), (["f(x) <= f(y)"], "?"), (["d(x) < d(y)"], ">"),
                                   (["q(x) < q(y)"], "?"), (["f(x) < y"], "?"), (["y < f(x)"], "?")):
            desk = desk_of(*supposed)
            self.assertEqual(desk.compare("x", "y"), expected)
            turned = {"<": ">", "<=": ">=", ">": "<", ">=": "<="}.get(expected, expected)
            self.assertEqual(desk.compare("y", "x"), turned)
            self.assertEqual(desk.compare(right=named("y"), left="x"), expected)
            self.assertEqual(desk.compare("x", "x"), "==")
            self.check_desk(desk, [], *supposed)

    def test_compare_with_traits(self):
        desk = desk_of("f(x) <= y", told=["up f"])
        self.assertEqual((desk.compare("x", "y"), desk.compare("y", "x"), desk.compare(F("x"), "x"), desk.compare("x", F(F("x")))),
                         ("<=", ">=", ">=", "<="))
        desk.traits = traits("up f", "down f")
        self.assertEqual((desk.compare("x", F("x")), desk.compare(F("x"), "y")), ("==", "<="))

    def test_compare_is_the_first_that_is_sure(self):
        for seed in range(80):
            making = Claiming(seed, names=("x", "y"))
            desk = Desk(traits("up f", "below f g"))
            try:
                for one in making.supposed():
                    desk.suppose(one)
            except (Impossible, InvalidClaim):
                continue
            left, right = making.expr(1), making.expr(1)
            answers = [("==", Comparison(left, "==", right)), ("<", Comparison(left, "<", right)), ("<=", Comparison(left, "<=", right)),
                       (">", Comparison(right, "<", left)), (">=", Comparison(right, "<=", left))]
            sure = [sign for sign, one in answers if desk.is_sure(one)]
            self.assertEqual(desk.compare(left, right), (sure + ["?"])[0])

    def test_holds_and_breach(self):
        rising = NeverAbove(NOTHING, program("x = f(x)"), "x")
        desk = desk_of("x <= f(f(x))")
        self.assertIs(desk.holds(rising), True)
        self.assertIsNone(desk.breach(rising))
        desk.take_back()
        self.assertIs(desk.holds(rising), False)
        found = desk.breach(rising)
        self.assertEqual((found.world.size, found.start), (2, {"x": 1}))
        desk.suppose(said("y < x"))
        found = desk.breach(claim=rising)
        self.assertTrue(rising.under(said("y < x")).fails(found.world, found.start))
        self.assertIs(desk.holds(claim=rising.under(said("x <= y"))), True)
        desk.traits = traits("up f")
        self.assertIs(desk.holds(rising), True)
        self.assertIsNone(desk.breach(rising))
        self.check_desk(desk, ["up f"], "y < x")

    def test_as_the_claim_under_the_suppositions(self):
        decided = 0
        for seed in range(120):
            making = Claiming(seed, names=("x", "y"), weight=4)
            claim = making.claim()
            told, supposed = making.traits(claim), [making.comparison(1) for _ in range(seed % 3)]
            desk = Desk()
            try:
                for one in supposed:
                    desk.suppose(one)
                desk.traits = told
            except (Impossible, InvalidClaim):
                continue
            whole = claim.under(*supposed)
            self.assertIs(desk.holds(claim), holds(whole, told))
            found, expected = desk.breach(claim), breach(whole, told)
            self.assertIs(found is None, expected is None)
            if found is not None:
                self.assertEqual((found.world, found.start, found.other), (expected.world, expected.start, expected.other))
            decided += 1
        self.assertGreater(decided, 60)

    def test_each_kind_of_claim(self):
        desk = desk_of("x < y", told=["up f"])
        choice = program("if x <= y", "x = f(y)", "else", "refuse no", "end")
        for claim, expected in ((NeverRefuses(choice), True), (NeverTaken(choice, 0, False), True), (NeverTaken(choice, 0, True), False),
                                (always("y <= x", p=choice), True), (Alike(choice, program("x = f(y)"), "x"), True),
                                (NeverAbove(choice, NOTHING, "x"), False), (Rises(choice, "x", "x"), True), (Rises(choice, "x", "y"), True)):
            self.assertIs(desk.holds(claim), expected, str(claim))
            self.assertIs(desk.breach(claim) is None, expected, str(claim))


class Failed(Exception):
    """An error in a block."""


class Blocks(AtDesks):

    def test_in_a_block_the_comparison_is_supposed(self):
        desk = desk_of("x < y", told=["up f"])
        with desk.supposing(said("y < z")) as held:
            self.assertIs(held, desk)
            self.check_desk(desk, ["up f"], "x < y", "y < z")
            self.assertEqual(desk.compare("x", "z"), "<")
        self.check_desk(desk, ["up f"], "x < y")
        self.assertEqual(desk.compare("x", "z"), "?")

    def test_only_entering_adds_it(self):
        desk = Desk()
        block = desk.supposing(comparison=said("x < y"))
        self.check_desk(desk, [])
        desk.suppose(said("y < z"))
        desk.traits = traits("up f")
        with block:
            self.check_desk(desk, ["up f"], "y < z", "x < y")
        # What was before the block was entered, not before it was made.
        self.check_desk(desk, ["up f"], "y < z")

    def test_left_by_an_error(self):
        desk = desk_of("x < y", told=["up f"])
        for kind in (Failed, ValueError, KeyError, Impossible):
            with self.assertRaises(kind):
                with desk.supposing(said("y < z")):
                    desk.suppose(said("z < a"))
                    desk.traits = Traits()
                    raise kind()
            self.check_desk(desk, ["up f"], "x < y")

    def test_left_by_return_and_break(self):
        desk = Desk()

        def work():
            for text in ("x < y", "y < z"):
                with desk.supposing(said(text)):
                    if text == "y < z":
                        return len(desk)
            return None

        self.assertEqual(work(), 1)
        self.check_desk(desk, [])
        for text in ("x < y", "y < z"):
            with desk.supposing(said(text)):
                break
        self.check_desk(desk, [])

    def test_changes_in_a_block(self):
        desk = desk_of("x < y", "y < z", told=["up f"])
        with desk.supposing(said("z < a")):
            for expected in (True, True, True, False):
                self.assertIs(desk.take_back(), expected)
            desk.traits = traits("down f", "settled g")
            desk.suppose(said("y < x"))
            self.check_desk(desk, ["down f", "settled g"], "y < x")
        self.check_desk(desk, ["up f"], "x < y", "y < z")

    def test_blocks_within_blocks(self):
        desk = desk_of(told=["up f"])
        with desk.supposing(said("x < y")):
            desk.traits = traits("up g")
            with desk.supposing(said("y < z")) as held, held.supposing(said("z < a")):
                self.check_desk(desk, ["up g"], "x < y", "y < z", "z < a")
                with self.assertRaises(Impossible):
                    with desk.supposing(said("a < x")):
                        self.fail("the block is entered")
                self.check_desk(desk, ["up g"], "x < y", "y < z", "z < a")
                desk.traits = Traits()
            self.check_desk(desk, ["up g"], "x < y")
        self.check_desk(desk, ["up f"])

    def test_within(self):
        desk = desk_of("x < y", told=["up f"])

        def work(held):
            self.assertIs(held, desk)
            self.check_desk(desk, ["up f"], "x < y", "y < z")
            held.suppose(said("z < a"))
            held.traits = Traits()
            return [held.compare("x", "a"), len(held)]

        self.assertEqual(desk.within(said("y < z"), work), ["<", 3])
        self.check_desk(desk, ["up f"], "x < y")
        self.assertEqual(desk.within(work=len, comparison=said("y < z")), 2)
        self.assertIsNone(desk.within(said("y < z"), lambda held: None))
        self.assertIs(desk.within(said("y < z"), lambda held: held), desk)
        self.check_desk(desk, ["up f"], "x < y")

    def test_within_is_left_by_an_error(self):
        desk = desk_of("x < y", told=["up f"])

        def work(held):
            held.take_back()
            held.take_back()
            raise Failed

        with self.assertRaises(Failed):
            desk.within(said("y < z"), work)
        self.check_desk(desk, ["up f"], "x < y")
        for bad, word in ((None, "comparison"), (UNLIKE, "step")):
            self.check_error(InvalidClaim, word, desk.within, bad, work)
            self.check_desk(desk, ["up f"], "x < y")

    def test_within_within(self):
        desk = Desk()
        seen = desk.within(said("x < y"), lambda one: one.within(said("y < z"), lambda two: (two.compare("x", "z"), len(two))))
        self.assertEqual(seen, ("<", 2))
        self.check_desk(desk, [])

    def test_suppositions_in_any_order(self):
        for one, other in product(("x < y", "y < z", "z <= x"), repeat=2):
            desk = desk_of(one)
            with desk.supposing(said(other)):
                self.check_desk(desk, [], one, other)
            self.check_desk(desk, [], one)


if __name__ == "__main__":
    unittest.main()
