"""Point [8]: traits, sets of traits."""

import unittest
from itertools import combinations, permutations, product

from knownways.errors import InvalidTrait
from knownways.steps import Step
from knownways.traits import Trait, Traits
from tests.helpers import Case, anything, no_steps, no_traits, some_traits

WORDS = ("up", "down", "settled", "mean", "alike", "below", "back")
ONE_STEP = ("up", "down", "settled", "mean", "alike")
TWO_STEPS = ("below", "back")
F, G, H = Step("f", "+"), Step("g", "+"), Step("h", "+")
M, N = Step("m", "++"), Step("n", "++")
ALL_WAYS = ["".join(ways) for count in (1, 2, 3) for ways in product("+-?", repeat=count)]


class Made(Case):

    def test_word_and_steps_are_kept(self):
        for trait, word, steps, text in (
                (Trait("up", F), "up", (F,), "up f"),
                (Trait("down", G), "down", (G,), "down g"),
                (Trait("settled", F), "settled", (F,), "settled f"),
                (Trait("mean", M), "mean", (M,), "mean m"),
                (Trait("alike", M), "alike", (M,), "alike m"),
                (Trait("below", G, F), "below", (G, F), "below g f"),
                (Trait("back", F, G), "back", (F, G), "back f g")):
            self.assertEqual((trait.word, type(trait.steps), trait.steps, str(trait)), (word, tuple, steps, text))

    def test_another_word(self):
        for value in anything() + ["Up", "ups", "u", "below f g", "up ", "equal", "wise", "f"]:
            if value not in WORDS:
                for steps in ((), (F,), (F, G), (3,), (Step("f", "-"),)):
                    self.check_error(InvalidTrait, "word", Trait, value, *steps)

    def test_not_as_many_steps(self):
        for word in ONE_STEP:
            for steps in ((), (M, N), (F, G), (F, F), (F, G, H), (F, None), (None, F)):
                self.check_error(InvalidTrait, "steps", Trait, word, *steps)
        for word in TWO_STEPS:
            for steps in ((), (F,), (F, G, H), (F, F, F), (F, G, None)):
                self.check_error(InvalidTrait, "steps", Trait, word, *steps)

    def test_other_values_are_no_steps(self):
        for value in no_steps() + ["f", [F], (F, G), [F, G]]:
            for word in ONE_STEP:
                self.check_error(InvalidTrait, "steps", Trait, word, value)
            for word in TWO_STEPS:
                self.check_error(InvalidTrait, "steps", Trait, word, F, value)
                self.check_error(InvalidTrait, "steps", Trait, word, value, F)
                self.check_error(InvalidTrait, "steps", Trait, word, value, value)

    def test_twice_the_same_step(self):
        for word in TWO_STEPS:
            for ways in ALL_WAYS:
                step = Step("f", ways)
                self.check_error(InvalidTrait, "steps", Trait, word, step, step)
                self.check_error(InvalidTrait, "steps", Trait, word, step, Step("f", ways))

    def test_ways_of_one_step(self):
        fitting = {"up": ["+"], "down": ["+"], "settled": ["+"], "mean": ["++"], "alike": ["++", "--", "??"]}
        for word in ONE_STEP:
            for ways in ALL_WAYS:
                step = Step("f", ways)
                if ways in fitting[word]:
                    self.assertEqual(Trait(word, step).steps, (step,))
                else:
                    self.check_error(InvalidTrait, "ways", Trait, word, step)

    def test_ways_of_two_steps(self):
        for ways, others in product(ALL_WAYS, ALL_WAYS):
            one, other = Step("f", ways), Step("g", others)
            if ways == others:
                self.assertEqual(Trait("below", one, other).steps, (one, other))
            else:
                self.check_error(InvalidTrait, "ways", Trait, "below", one, other)
            if ways == others == "+":
                self.assertEqual(Trait("back", one, other).steps, (one, other))
            else:
                self.check_error(InvalidTrait, "ways", Trait, "back", one, other)

    def test_unlike_steps_of_one_name_have_unlike_ways(self):
        for word in TWO_STEPS:
            self.check_error(InvalidTrait, "ways", Trait, word, F, Step("f", "-"))

    def test_the_order_of_the_errors(self):
        self.check_error(InvalidTrait, "word", Trait, "x", 3)
        self.check_error(InvalidTrait, "steps", Trait, "up", Step("f", "-"), 3)
        self.check_error(InvalidTrait, "steps", Trait, "back", Step("f", "-"), Step("f", "-"))

    def test_the_word_by_name(self):
        self.check_error(InvalidTrait, "steps", Trait, word="up")
        self.check_error(InvalidTrait, "word", Trait, word="x")

    def test_listed(self):
        self.check_listed(Trait("up", F), ("__init__", "__eq__", "__str__"), ("word", "steps"))
        self.assertEqual(Trait.__module__, "knownways.traits")


class Equal(Case):

    def test_equal_traits(self):
        self.check_equal(Trait("up", F), Trait("up", Step("f", "+")))
        self.check_equal(Trait("below", M, N), Trait("below", Step("m", "++"), Step("n", "++")))

    def test_unlike_traits(self):
        self.check_all_unlike([Trait("up", F), Trait("down", F), Trait("settled", F), Trait("up", G), Trait("mean", M),
                               Trait("alike", M), Trait("alike", Step("m", "--")), Trait("below", F, G),
                               Trait("below", G, F), Trait("back", F, G), Trait("back", G, F), Trait("below", M, N),
                               Trait("below", Step("f", "-"), Step("g", "-"))])

    def test_nothing_else_is_equal(self):
        for value in anything():
            if not isinstance(value, Trait):
                self.check_unlike(Trait("up", F), value)
            if not isinstance(value, Traits):
                self.check_unlike(Traits(Trait("up", F)), value)
                self.check_unlike(Traits(), value)
        self.check_unlike(Trait("up", F), Traits(Trait("up", F)))
        self.check_unlike(Trait("up", F), "up f")


class SetsMade(Case):

    def test_entries_and_steps(self):
        told = Traits(Trait("up", F), Trait("mean", N), Trait("below", F, G), Trait("alike", M), Trait("down", H))
        self.assertEqual(told.entries, (Trait("alike", M), Trait("below", F, G), Trait("down", H), Trait("mean", N),
                                        Trait("up", F)))
        self.assertEqual(told.steps, (F, G, H, M, N))
        self.assertEqual((type(told.entries), type(told.steps)), (tuple, tuple))
        self.assertEqual(str(told), "alike m\nbelow f g\ndown h\nmean n\nup f")
        self.assertEqual((len(told), bool(told)), (5, True))

    def test_each_once(self):
        told = Traits(Trait("up", G), Trait("up", F), Trait("up", Step("g", "+")), Trait("up", G))
        self.assertEqual((told.entries, told.steps, len(told)), ((Trait("up", F), Trait("up", G)), (F, G), 2))

    def test_ascending_by_texts_as_strings(self):
        steps = [Step(name, "+") for name in ("b", "a", "ab", "aa", "b", "abc")]
        told = Traits(*[Trait("up", step) for step in steps], Trait("below", steps[0], steps[1]))
        self.assertEqual([str(entry) for entry in told.entries],
                         ["below b a", "up a", "up aa", "up ab", "up abc", "up b"])
        self.assertEqual([step.name for step in told.steps], ["a", "aa", "ab", "abc", "b"])

    def test_the_empty_set(self):
        told = Traits()
        self.assertEqual((told.entries, told.steps, len(told), bool(told), str(told)), ((), (), 0, False, ""))

    def test_the_order_of_the_arguments_does_not_matter(self):
        traits = [Trait("up", F), Trait("below", F, G), Trait("down", H), Trait("alike", M)]
        for order in permutations(traits):
            self.check_equal(Traits(*order), Traits(*traits))

    def test_other_values_are_no_traits(self):
        for value in no_traits() + [Traits(Trait("up", F)), [Trait("up", F)]]:
            self.check_error(InvalidTrait, "trait", Traits, value)
            self.check_error(InvalidTrait, "trait", Traits, Trait("up", F), value)
            self.check_error(InvalidTrait, "trait", Traits, value, Trait("up", F))

    def test_two_unlike_steps_of_one_name(self):
        other = Step("f", "-")
        one_name = [Trait("up", F), Trait("below", other, Step("g", "-"))]
        self.check_error(InvalidTrait, "name", Traits, *one_name)
        self.check_error(InvalidTrait, "name", Traits, *one_name[::-1])
        self.check_error(InvalidTrait, "name", Traits, Trait("alike", M), Trait("alike", Step("m", "--")))
        self.check_error(InvalidTrait, "name", Traits, Trait("below", F, G),
                         Trait("below", Step("f", "-"), Step("g", "-")))
        self.check_error(InvalidTrait, "name", Traits, Trait("up", F), Trait("mean", Step("f", "++")))

    def test_a_step_of_back_in_another_trait(self):
        back = Trait("back", F, G)
        for other in (Trait("up", F), Trait("down", G), Trait("settled", G), Trait("below", F, H),
                      Trait("below", H, G), Trait("below", F, G), Trait("back", G, F), Trait("back", F, H),
                      Trait("back", H, F), Trait("back", H, G)):
            self.check_error(InvalidTrait, "back", Traits, back, other)
            self.check_error(InvalidTrait, "back", Traits, other, back)
            self.check_error(InvalidTrait, "back", Traits, other, back, Trait("alike", M), other)

    def test_back_beside_other_steps(self):
        i = Step("i", "+")
        told = Traits(Trait("back", F, G), Trait("up", H), Trait("back", Step("f", "+"), G))
        self.assertEqual(str(told), "back f g\nup h")
        self.assertEqual(len(Traits(Trait("back", F, G), Trait("back", H, i))), 2)
        self.assertEqual(len(Traits(Trait("up", F), Trait("down", F), Trait("settled", F), Trait("back", H, i))), 4)

    def test_a_step_of_below_that_settles_or_is_a_mean_or_alike(self):
        for below, others in ((Trait("below", F, G), [Trait("settled", F), Trait("settled", G)]),
                              (Trait("below", M, N), [Trait("mean", M), Trait("mean", N), Trait("alike", M),
                                                      Trait("alike", N)])):
            for other in others:
                self.check_error(InvalidTrait, "below", Traits, below, other)
                self.check_error(InvalidTrait, "below", Traits, other, below)
                self.check_error(InvalidTrait, "below", Traits, Trait("up", H), other, below)

    def test_below_beside_others(self):
        told = Traits(Trait("below", F, G), Trait("up", F), Trait("down", G), Trait("below", G, H),
                      Trait("below", G, F), Trait("mean", M), Trait("alike", M))
        self.assertEqual(len(told), 7)
        self.assertEqual(len(Traits(Trait("below", F, G), Trait("settled", H), Trait("alike", N))), 3)
        self.assertEqual(len(Traits(Trait("settled", H), Trait("mean", M), Trait("alike", M))), 3)

    def test_the_order_of_the_errors(self):
        unlike = Step("f", "-")
        self.check_error(InvalidTrait, "trait", Traits, Trait("up", F), Trait("below", unlike, Step("g", "-")), None)
        self.check_error(InvalidTrait, "name", Traits, Trait("back", F, G), Trait("up", F),
                         Trait("below", unlike, Step("i", "-")))
        self.check_error(InvalidTrait, "name", Traits, Trait("back", F, G),
                         Trait("below", unlike, Step("g", "-")))
        self.check_error(InvalidTrait, "back", Traits, Trait("below", F, G), Trait("settled", F),
                         Trait("back", G, H))

    def test_what_follows_is_neither_an_entry_nor_an_error(self):
        told = Traits(Trait("below", F, G), Trait("below", G, H), Trait("down", H), Trait("up", F))
        self.assertEqual(str(told), "below f g\nbelow g h\ndown h\nup f")
        for trait in (Trait("below", F, H), Trait("down", G), Trait("up", G), Trait("up", H)):
            self.assertNotIn(trait, told)

    def test_listed(self):
        self.check_listed(Traits(), ("__init__", "is_part_of", "__or__", "__and__", "__sub__", "__xor__", "__len__",
                                     "__bool__", "__contains__", "__eq__", "__str__"), ("entries", "steps"))
        self.assertEqual(Traits.__module__, "knownways.traits")


class SetsUsed(Case):

    def every_set(self):
        traits = [Trait("up", F), Trait("below", F, G), Trait("down", H), Trait("mean", M)]
        return [Traits(*some) for count in range(5) for some in combinations(traits, count)]

    def test_operators(self):
        for one, other in product(self.every_set(), self.every_set()):
            both = list(one.entries) + list(other.entries)
            self.check_equal(one | other, Traits(*both))
            self.check_equal(one & other, Traits(*[trait for trait in one.entries if trait in other.entries]))
            self.check_equal(one - other, Traits(*[trait for trait in one.entries if trait not in other.entries]))
            self.check_equal(one ^ other, Traits(*[trait for trait in both if both.count(trait) == 1]))
            for made in (one | other, one & other, one - other, one ^ other):
                self.assertIsInstance(made, Traits)

    def test_is_part_of(self):
        for one, other in product(self.every_set(), self.every_set()):
            expected = len([trait for trait in one.entries if trait not in other.entries]) == 0
            self.assertIs(one.is_part_of(other), expected)
            self.assertIs(one.is_part_of(others=other), expected)

    def test_operands_stay(self):
        one, other = Traits(Trait("up", F), Trait("down", G)), Traits(Trait("up", F), Trait("down", H))
        for _ in range(2):
            self.assertEqual(str(one | other), "down g\ndown h\nup f")
            self.assertEqual(str(one & other), "up f")
            self.assertEqual(str(one - other), "down g")
            self.assertEqual(str(other - one), "down h")
            self.assertEqual(str(one ^ other), "down g\ndown h")
        self.assertEqual((str(one), str(other)), ("down g\nup f", "down h\nup f"))
        kept = one
        one |= other
        self.assertEqual((str(one), str(kept)), ("down g\ndown h\nup f", "down g\nup f"))

    def test_steps_of_what_is_made(self):
        one, other = Traits(Trait("below", F, G)), Traits(Trait("up", F), Trait("below", F, G))
        self.assertEqual([(one | other).steps, (one & other).steps, (other - one).steps, (one ^ other).steps],
                         [(F, G), (F, G), (F,), (F,)])

    def test_errors_of_union_and_difference_of_both(self):
        alike, other = Traits(Trait("alike", M)), Traits(Trait("alike", Step("m", "--")))
        back, up = Traits(Trait("back", F, G)), Traits(Trait("up", F))
        below, settled = Traits(Trait("below", F, G)), Traits(Trait("settled", G))
        for one, two, word in ((alike, other, "name"), (back, up, "back"), (below, settled, "below")):
            for left, right in ((one, two), (two, one)):
                self.check_error(InvalidTrait, word, lambda a, b: a | b, left, right)
                self.check_error(InvalidTrait, word, lambda a, b: a ^ b, left, right)
                self.check_equal(left & right, Traits())
                self.check_equal(left - right, left)
                self.assertIs(left.is_part_of(right), False)

    def test_no_error_where_both_have_it(self):
        one, other = Traits(Trait("below", F, G), Trait("up", F)), Traits(Trait("below", F, G), Trait("settled", H))
        self.assertEqual(str(one ^ other), "settled h\nup f")
        self.check_equal(one ^ one, Traits())

    def test_in(self):
        told = Traits(*some_traits())
        for trait in some_traits():
            self.assertIs(trait in told, True)
            self.assertIs(trait in Traits(), False)
        for value in no_traits() + [Trait("up", Step("g", "+")), Trait("below", G, F), Trait("alike", Step("f", "--")),
                                    "up f", told]:
            self.assertIs(value in told, False, value)
            self.assertIs(value in Traits(), False, value)

    def test_a_step_of_unlike_ways_is_another_one(self):
        told = Traits(Trait("alike", M))
        self.assertNotIn(Trait("alike", Step("m", "??")), told)
        self.assertFalse(Traits(Trait("alike", Step("m", "--"))).is_part_of(told))

    def test_equal(self):
        self.check_equal(Traits(), Traits())
        self.check_equal(Traits(Trait("up", F)), Traits(Trait("up", Step("f", "+")), Trait("up", F)))
        self.check_all_unlike(self.every_set())
        self.check_unlike(Traits(Trait("alike", M)), Traits(Trait("alike", Step("m", "--"))))


if __name__ == "__main__":
    unittest.main()
