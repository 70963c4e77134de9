"""Point [32]: which traits a claim needs."""

import unittest
from itertools import combinations

from knownways.claims import Always, NeverAbove, NeverRefuses
from knownways.comparisons import Comparison
from knownways.deciding import holds
from knownways.errors import InvalidClaim
from knownways.needed import greatest_failing, least_traits
from knownways.programs import Program
from knownways.rows import Put
from knownways.steps import Step
from knownways.traits import Trait, Traits
from tests.claiming import WORDS, Claiming
from tests.helpers import Case
from tests.test_deciding import E, F, G, M, always, impossible, program, said, traits


def every_subset(told):
    return [Traits(*chosen) for count in range(len(told) + 1) for chosen in combinations(told.entries, count)]


def by_definition(claim, told):
    """Both answers, after the words of the document."""
    subsets = every_subset(told)
    holding = [one for one in subsets if holds(claim, one)]
    failing = [one for one in subsets if not holds(claim, one)]
    least = [one for one in holding if not any(less != one and less.is_part_of(one) for less in holding)]
    greatest = [one for one in failing if not any(more != one and one.is_part_of(more) for more in failing)]

    def texts(one):
        return [str(entry) for entry in one.entries]

    return (tuple(sorted(least, key=lambda one: (len(one), texts(one)))),
            tuple(sorted(greatest, key=lambda one: (-len(one), texts(one)))))


class Needed(Case):

    def check_needed(self, claim, told, least=None, failing=None):
        """The answers are those of the definition, and these ones, given as texts."""
        found, left = least_traits(claim, told), greatest_failing(claim, told)
        self.assertEqual((found, left), by_definition(claim, told), (str(claim), str(told)))
        for one in found + left:
            self.assertIsInstance(one, Traits)
            self.assertTrue(one.is_part_of(told))
        for one in found:
            for other in left:
                self.assertFalse(one.is_part_of(other))
        self.assertEqual((type(found), type(left)), (tuple, tuple))
        if least is not None:
            self.assertEqual([str(one).split("\n") for one in found], least)
            self.assertEqual([str(one).split("\n") for one in left], failing)
        return found, left

    def test_some(self):
        told = traits("up f", "up g", "below g f")
        claim = NeverAbove(Program(), Program([Put("x", F("x"))]), "x")
        self.check_needed(claim, told, [["up f"], ["below g f", "up g"]], [["below g f"], ["up g"]])

    def test_none_is_needed(self):
        for told in (Traits(), traits("up f"), traits("up f", "settled g", "mean m")):
            self.check_needed(always("x <= x"), told)
            self.assertEqual(least_traits(always("x <= x"), told), (Traits(),))
            self.assertEqual(greatest_failing(always("x <= x"), told), ())

    def test_not_with_all(self):
        for told in (Traits(), traits("up f"), traits("up f", "settled g", "mean m")):
            self.check_needed(always("f(x) <= x", "y < x"), told)
            self.assertEqual(least_traits(always("f(x) <= x", "y < x"), told), ())
            self.assertEqual(greatest_failing(always("f(x) <= x", "y < x"), told), (told,))

    def test_all_are_needed(self):
        told = traits("up f", "down f")
        self.check_needed(always("f(x) == x"), told, [["down f", "up f"]], [["down f"], ["up f"]])
        told = traits("below f g", "below g e", "down e", "mean m")
        self.check_needed(always("f(x) <= x"), told, [["below f g", "below g e", "down e"]],
                          [["below f g", "below g e", "mean m"], ["below f g", "down e", "mean m"], ["below g e", "down e", "mean m"]])

    def test_each_kind(self):
        for text, word in (("x <= f(x)", "up f"), ("f(x) <= x", "down f"), ("f(f(x)) == f(x)", "settled f"), ("m(x, x) == x", "mean m"),
                           ("m(x, y) == m(y, x)", "alike m"), ("f(x) <= g(x)", "below f g"), ("x <= g(f(x))", "back f g")):
            told = traits(word, "alike n", "down e")
            self.check_needed(always(text), told, [[word]], [["alike n", "down e"]])

    def test_the_order(self):
        # By number first, then by the texts one after the other.
        told = traits("up f", "up g", "below f g", "below g f", "down e")
        found, left = self.check_needed(always("x <= greater(f(x), g(x))"), told)
        self.assertEqual([str(one) for one in found], ["up f", "up g"])
        self.assertEqual([str(one) for one in left], ["below f g\nbelow g f\ndown e"])
        told = traits("up f", "below f g", "below f e", "below g e", "up g")
        found, left = self.check_needed(always("x <= e(x)"), told)
        self.assertEqual([str(one) for one in found], ["below f e\nup f", "below g e\nup g", "below f g\nbelow g e\nup f"])
        self.assertEqual([str(one) for one in left], ["below f e\nbelow f g\nbelow g e", "below f e\nbelow f g\nup g",
                                                      "below f g\nup f\nup g", "below g e\nup f"])
        counts = [len(one) for one in left]
        self.assertEqual(counts, sorted(counts, reverse=True))

    def test_made_claims(self):
        seen = []
        for seed in range(250):
            making = Claiming(seed, pool=[F, G, [M, E][seed % 2]], names=("x",))
            making.steps = making.pool
            claim = Always(Program(), Comparison(making.expr(), "<=", making.expr()))
            told = making.traits(claim, [WORDS, ("up", "below", "down")][seed % 2], 7, others=False)
            found, left = self.check_needed(claim, told)
            seen.append((len(found), len(left), len(told)))
        self.assertGreater(len([one for one in seen if one[0] and one[1]]), 10)
        self.assertGreaterEqual(max(one[2] for one in seen), 5)

    def test_impossible_suppositions(self):
        self.check_needed(impossible("f(x) < x"), traits("up f", "down f"), [["up f"]], [["down f"]])

    def test_errors(self):
        for call in (least_traits, greatest_failing):
            self.check_error(InvalidClaim, "step", call, always("f(x) <= x"), Traits(Trait("mean", Step("f", "++"))))
            loop = NeverRefuses(program("still", "x |= f(x)", "end"))
            for told in (["down f"], ["up g", "settled f"], ["below f g", "down g"], ["back f g"]):
                self.check_error(InvalidClaim, "loop", call, loop, traits(*told))
            self.check_error(InvalidClaim, "step", call, loop.under(said("g(x) < x")),
                             Traits(Trait("down", F), Trait("mean", Step("g", "++"))))
            # With up they are decided.
            self.assertEqual(len(call(Always(loop.p, said("x <= x")), traits("up f"))), 1 if call is least_traits else 0)

    def test_arguments_by_name_and_again(self):
        claim, told = always("x <= f(x)"), traits("up f", "down f")
        first = least_traits(traits=told, claim=claim), greatest_failing(traits=told, claim=claim)
        self.assertEqual(first, ((traits("up f"),), (traits("down f"),)))
        self.assertEqual((least_traits(claim, told), greatest_failing(claim, told)), first)
        self.assertEqual((str(claim), str(told)), ("always x <= f(x)", "down f\nup f"))


if __name__ == "__main__":
    unittest.main()
