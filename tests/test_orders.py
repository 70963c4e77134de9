"""Point [35]: orders of steps, and chains beside one another."""

import unittest
from itertools import permutations, product

from knownways.claims import Always
from knownways.comparisons import Comparison
from knownways.deciding import breach
from knownways.errors import InvalidClaim, InvalidStep
from knownways.exprs import named
from knownways.orders import best_orders, compare_chains
from knownways.programs import Program
from knownways.steps import Chain, Step
from knownways.traits import Trait, Traits
from knownways.worlds import worlds
from tests.claiming import Claiming
from tests.helpers import Case

F, G, H, D, Q = Step("f", "+"), Step("g", "+"), Step("h", "+"), Step("d", "-"), Step("q", "?")
TWO = Step("m", "++")


def told(*texts):
    steps = {step.name: step for step in (F, G, H)}
    return Traits(*[Trait(text.split(" ")[0], *[steps[name] for name in text.split(" ")[1:]]) for text in texts])


def never_above(one, other, steps, traits, size):
    """Whether one chain is never above the other in all worlds of up to this size."""
    said = Comparison(one("x"), "<=", other("x"))
    return all(said.holds(world, {"x": value}) for many in range(1, size + 1) for world in worlds(steps, many, traits)
               for value in range(many))


def names(chains):
    return [str(chain) for chain in chains]


class Compared(Case):

    def check_compared(self, one, other, expected, traits=None):
        self.assertEqual(compare_chains(one, other, traits), expected, (str(one), str(other), str(traits)))
        turned = {"<=": ">=", ">=": "<="}.get(expected, expected)
        self.assertEqual(compare_chains(other, one, traits), turned)

    def test_known_answers(self):
        self.check_compared(Chain(F), Chain(G), "?")
        self.assertEqual((compare_chains(Chain(F), Chain(F)), compare_chains(Chain(F), Chain(G))), ("==", "?"))
        self.check_compared(Chain(F, F), Chain(F), "==", told("settled f"))
        self.check_compared(Chain(), Chain(), "==")
        self.check_compared(Chain(), Chain(F), "?")
        self.check_compared(Chain(), Chain(F), "<=", told("up f"))
        self.check_compared(Chain(), Chain(F), ">=", told("down f"))
        self.check_compared(Chain(), Chain(F), "==", told("up f", "down f"))
        self.check_compared(Chain(F), Chain(G), "<=", told("below f g"))
        self.check_compared(Chain(F, F), Chain(G, G), "<=", told("below f g"))
        self.check_compared(Chain(F, G), Chain(G, F), "?", told("below f g"))
        self.check_compared(Chain(F, G, F), Chain(F), "==", told("back f g"))
        self.check_compared(Chain(), Chain(G, F), "<=", told("back f g"))
        self.check_compared(Chain(F, G), Chain(), "<=", told("back f g"))
        self.check_compared(Chain(D), Chain(D), "==")
        self.check_compared(Chain(D, D), Chain(D), "?")
        self.check_compared(Chain(D, F), Chain(D), ">=", told("down f"))
        self.check_compared(Chain(D, F), Chain(D), "<=", told("up f"))
        self.check_compared(Chain(Q, F), Chain(Q), "?", told("up f"))
        self.check_compared(Chain(Q, F), Chain(Q), "==", told("up f", "down f"))
        self.check_compared(Chain(F, G, H), Chain(F, H), "<=", told("down g"))
        self.check_compared(F ** 4, F ** 3, "<=", told("down f"))
        self.check_compared(F ** 4, F ** 3, "?")
        self.check_compared(D ** 4, D ** 3, "?")

    def is_below(self, one, other, steps, traits):
        """Whether one chain is never above the other; if not, some world shows it."""
        found = breach(Always(Program(), Comparison(one("x"), "<=", other("x"))), traits)
        if found is None:
            self.assertTrue(never_above(one, other, steps, traits, 3 if Q not in steps else 2))
            return True
        self.assertGreater(found.world.value(one("x"), found.start), found.world.value(other("x"), found.start))
        self.assertTrue(found.world.keeps(traits))
        return False

    def test_against_worlds(self):
        signs = []
        for seed in range(200):
            making = Claiming(seed)
            pool = [[F, G], [F, D], [F], [G, Q]][seed % 4]
            one, other = [Chain(*[making.one_of(pool) for _ in range(making.chance.randrange(4))]) for _ in range(2)]
            steps = sorted({step.name: step for step in one.steps + other.steps}.values(), key=lambda step: step.name)
            traits = made_traits(making, [step for step in steps if step.ways == "+"])
            sign = compare_chains(one, other, traits)
            signs.append(sign)
            self.assertIs(self.is_below(one, other, steps, traits), sign in ("==", "<="), (str(one), str(other), str(traits)))
            self.assertIs(self.is_below(other, one, steps, traits), sign in ("==", ">="), (str(one), str(other), str(traits)))
        for sign in ("==", "<=", ">=", "?"):
            self.assertGreater(signs.count(sign), 10)

    def test_by_name(self):
        self.assertEqual(compare_chains(other=Chain(F), traits=told("up f"), one=Chain()), "<=")

    def test_at_the_limits(self):
        self.check_compared(Chain(F, G, H, F), Chain(H, G, F), "?")
        self.check_compared(Chain(F, G, H, F), Chain(F, G, H), ">=", told("up f"))
        self.check_compared(Chain(D, Q, F, G, H, F, G), Chain(), "?")


def made_traits(making, steps):
    """Some traits of the steps that may be told together."""
    found = []
    for _ in range(making.chance.randrange(4) if steps else 0):
        word = making.one_of(["up", "down", "settled"] + (["below", "back"] if len(steps) > 1 else []))
        chosen = making.chance.sample(steps, 2 if word in ("below", "back") else 1)
        try:
            found = list(Traits(*found, Trait(word, *chosen)).entries)
        except ValueError:
            pass
    return Traits(*found)


class Best(Case):

    def by_definition(self, steps, traits):
        chains = [Chain(*order) for order in permutations(steps)]
        best = [one for one in chains if all(compare_chains(one, other, traits) in ("==", "<=") for other in chains)]
        return tuple(sorted(best, key=lambda chain: [step.name for step in chain.steps]))

    def check_best(self, steps, expected, traits=None):
        for given in (list(steps), tuple(steps), list(steps)[::-1]):
            found = best_orders(given, traits)
            self.assertIs(type(found), tuple)
            self.assertEqual(names(found), expected)
            self.assertEqual(found, self.by_definition(steps, traits))

    def test_known_answers(self):
        self.assertEqual((best_orders([F]), best_orders([F, G])), ((Chain(F),), ()))
        self.check_best([F], ["f"])
        self.check_best([Q], ["q"])
        self.check_best([F, G], [])
        self.check_best([F, G], ["f g", "g f"], told("up f", "down f"))
        self.check_best([G, F], ["f g", "g f"], told("below f g", "below g f"))
        self.check_best([F, G], ["f g"], told("back f g"))
        self.check_best([F, G, H], [])
        self.check_best([F, G, H], ["f g h", "f h g", "g f h", "g h f", "h f g", "h g f"],
                        told("up f", "down f", "up g", "down g"))
        self.check_best([F, D], ["d f", "f d"], told("up f", "down f"))
        self.check_best([D, Q], [])

    def test_closures(self):
        # A step below the other one, both settled ones that go up, may be done at last or at first.
        traits = told("up f", "settled f", "up g", "settled g")
        self.check_best([F, G], names(self.by_definition([F, G], traits)), traits)

    def test_the_order_of_the_result(self):
        names_of = ("b", "a", "ab", "c")
        steps = [Step(name, "+") for name in names_of[:3]]
        same = Traits(*[Trait(word, step) for word in ("up", "down") for step in steps])
        self.assertEqual(names(best_orders(steps, same)), ["a ab b", "a b ab", "ab a b", "ab b a", "b a ab", "b ab a"])

    def test_made_traits(self):
        counts = []
        for seed in range(120):
            making = Claiming(seed)
            steps = [F, G, H][:2 + seed % 2]
            traits = made_traits(making, steps)
            found = best_orders(steps, traits)
            self.assertEqual(found, self.by_definition(steps, traits))
            counts.append(len(found))
        self.assertGreater(len([count for count in counts if count]), 10)

    def test_by_name(self):
        self.assertEqual(names(best_orders(traits=told("up f", "down f"), steps=[F])), ["f"])


class Errors(Case):

    def test_chain(self):
        unlike = Step("f", "-")
        for steps in ([TWO], [F, TWO], [TWO, F], (F, G, Step("t", "+-?")), [F, unlike, TWO], [TWO, F, unlike]):
            self.check_error(InvalidStep, "chain", best_orders, steps)
            self.check_error(InvalidStep, "chain", best_orders, steps, Traits(Trait("mean", Step("f", "++"))))

    def test_name(self):
        unlike, mean = Step("f", "-"), Traits(Trait("mean", Step("f", "++")))
        for traits in (None, mean):
            for steps in ([F, unlike], (unlike, G, F)):
                self.check_error(InvalidStep, "name", best_orders, steps, traits)
            for one, other in product((Chain(F), Chain(G, F)), (Chain(unlike), Chain(unlike, G), Chain(F, unlike))):
                self.check_error(InvalidStep, "name", compare_chains, one, other, traits)
                self.check_error(InvalidStep, "name", compare_chains, other, one, traits)

    def test_traits(self):
        mean = Traits(Trait("mean", Step("f", "++")))
        self.check_error(InvalidClaim, "step", best_orders, [F], mean)
        self.check_error(InvalidClaim, "step", best_orders, (G, F), mean)
        self.check_error(InvalidClaim, "step", compare_chains, Chain(F), Chain(), mean)
        self.check_error(InvalidClaim, "step", compare_chains, Chain(G), Chain(G, F), mean)
        self.assertEqual(compare_chains(Chain(G), Chain(G), mean), "==")

    def test_nothing_changes(self):
        steps, traits = [G, F], told("up f")
        for _ in range(2):
            self.assertEqual(best_orders(steps, traits), ())
            self.assertEqual(compare_chains(Chain(F), Chain(), traits), ">=")
        self.assertEqual(([str(step) for step in steps], str(traits), str(named("x"))), (["g +", "f +"], "up f", "x"))


if __name__ == "__main__":
    unittest.main()
