"""Point [7]: chains of steps."""

import unittest

from knownways.errors import InvalidExpr, InvalidStep
from knownways.exprs import named
from knownways.steps import Chain, Step
from tests.helpers import F, G, H, K, Case, anything, no_parts, no_steps

U = Step("u", "?")


class Made(Case):

    def test_steps_are_kept(self):
        for steps in ((), (F,), (F, G), (G, F), (F, F, F), (U, F, G, U, F)):
            chain = Chain(*steps)
            self.assertEqual((type(chain.steps), chain.steps, len(chain)), (tuple, steps, len(steps)))
            self.assertEqual(str(chain), " ".join(step.name for step in steps))

    def test_no_steps_of_one_argument(self):
        for value in no_steps() + [H, K, "f", "x", Chain(F), [F], (F, G)]:
            self.check_error(InvalidStep, "chain", Chain, value)
            self.check_error(InvalidStep, "chain", Chain, F, value)
            self.check_error(InvalidStep, "chain", Chain, value, F)
            self.check_error(InvalidStep, "chain", Chain, F, value, G)

    def test_unlike_steps_of_one_name_are_not_looked_at(self):
        self.assertEqual(str(Chain(F, Step("f", "-"))), "f f")

    def test_listed(self):
        self.check_listed(Chain(F), ("__init__", "__call__", "__mul__", "__pow__", "__len__", "__eq__", "__str__"),
                          ("steps",))
        self.assertEqual(Chain.__module__, "knownways.steps")


class Called(Case):

    def test_the_last_step_comes_first(self):
        self.check_equal(Chain(F, G)("x"), F(G("x")))
        self.check_equal(Chain(F, G, U)("x"), F(G(U("x"))))
        self.check_equal(Chain(F)("x"), F("x"))
        self.check_equal(Chain(G, F)(F("x")), G(F(F("x"))))
        self.check_equal(Chain(F)(named("x") & "y"), F(named("x") & "y"))

    def test_the_empty_chain(self):
        self.check_equal(Chain()("x"), named("x"))
        self.check_equal(Chain()(F("x")), F("x"))

    def test_the_part_by_name(self):
        self.check_equal(Chain(F, G)(part="x"), F(G("x")))

    def test_other_values_are_no_parts(self):
        for value in no_parts():
            for chain in (Chain(), Chain(F), Chain(F, G)):
                self.check_error(InvalidExpr, "part", chain, value)
                self.check_error(InvalidExpr, "part", chain, part=value)


class Operators(Case):

    def test_times(self):
        self.check_equal(F * G, Chain(F, G))
        self.check_equal(G * F, Chain(G, F))
        self.check_equal(F * F, Chain(F, F))
        self.check_equal(Chain(F, G) * U, Chain(F, G, U))
        self.check_equal(U * Chain(F, G), Chain(U, F, G))
        self.check_equal(Chain(F, G) * Chain(U, F), Chain(F, G, U, F))
        self.check_equal(Chain() * F, Chain(F))
        self.check_equal(F * Chain(), Chain(F))
        self.check_equal(Chain() * Chain(), Chain())
        self.check_equal(F * G * U, Chain(F, G, U))
        self.check_equal((F * G)("x"), F(G("x")))

    def test_times_a_step_of_another_number_of_arguments(self):
        for step in (H, K):
            for other in (F, Chain(F), Chain(), H, K):
                self.check_error(InvalidStep, "chain", lambda one, two: one * two, step, other)
                self.check_error(InvalidStep, "chain", lambda one, two: one * two, other, step)

    def test_power(self):
        for count in range(9):
            self.check_equal(F ** count, Chain(*[F] * count))
            self.check_equal(Chain(F) ** count, Chain(*[F] * count))
            self.check_equal(Chain(F, G) ** count, Chain(*[F, G] * count))
            self.check_equal(Chain() ** count, Chain())

    def test_power_of_a_step_of_another_number_of_arguments(self):
        for step in (H, K):
            for count in range(9):
                self.check_error(InvalidStep, "chain", lambda one, two: one ** two, step, count)

    def test_operands_stay(self):
        one, other = Chain(F, G), Chain(U)
        first, again = one * other, one * other
        power, more = one ** 3, one ** 3
        self.check_equal(first, again)
        self.check_equal(power, more)
        self.assertEqual((one.steps, other.steps), ((F, G), (U,)))

    def test_times_in_place(self):
        chain = kept = Chain(F)
        chain *= G
        self.check_equal(chain, Chain(F, G))
        self.check_equal(kept, Chain(F))


class Equal(Case):

    def test_equal_chains(self):
        self.check_equal(Chain(), Chain())
        self.check_equal(Chain(F, G), Chain(Step("f", "+"), Step("g", "-")))

    def test_unlike_chains(self):
        self.check_all_unlike([Chain(), Chain(F), Chain(G), Chain(F, G), Chain(G, F), Chain(F, F),
                               Chain(Step("f", "-")), Chain(F, G, F)])

    def test_nothing_else_is_equal(self):
        for value in anything():
            if not isinstance(value, Chain):
                self.check_unlike(Chain(F), value)
                self.check_unlike(Chain(), value)
        self.check_unlike(Chain(F), (F,))


if __name__ == "__main__":
    unittest.main()
