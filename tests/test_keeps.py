"""Points [8] and [16]: the traits that the tables of worlds have."""

import unittest
from itertools import combinations, product

from knownways.errors import NoStep
from knownways.steps import Step
from knownways.traits import Trait, Traits
from knownways.worlds import World, worlds
from tests.helpers import Case
from tests.making import entry

U, V = Step("u", "+"), Step("v", "+")
M, N = Step("m", "++"), Step("n", "++")


def has(world, trait):
    """Whether the world has the trait, as the table of [8] tells."""
    tables = [world[step] for step in trait.steps]
    one, other = tables[0], tables[-1]
    values = range(world.size)
    if trait.word == "up":
        return not [v for v in values if not v <= one[v]]
    if trait.word == "down":
        return not [v for v in values if not one[v] <= v]
    if trait.word == "settled":
        return not [v for v in values if one[one[v]] != one[v]]
    pairs = list(product(values, values))
    if trait.word == "mean":
        return not [(v, w) for v, w in pairs if (one[v][w] < v and one[v][w] < w) or (one[v][w] > v and one[v][w] > w)]
    if trait.word == "alike":
        return not [(v, w) for v, w in pairs if one[v][w] != one[w][v]]
    if trait.word == "back":
        return not [(v, w) for v, w in pairs if (one[v] <= w) is not (v <= other[w])]
    return not [place for place in product(values, repeat=len(trait.steps[0]))
                if not entry(one, place) <= entry(other, place)]


class Keeps(Case):

    def check_all(self, steps, size, traits):
        """Each world with these steps keeps just the traits that it has, and all of them at once."""
        seen = []
        for world in worlds(steps, size):
            kept = [trait for trait in traits if has(world, trait)]
            for trait in traits:
                self.assertIs(world.keeps(Traits(trait)), trait in kept, str(trait))
            for one, other in combinations(traits, 2):
                if not {one.word, other.word} & {"back", "below"}:
                    self.assertIs(world.keeps(Traits(one, other)), one in kept and other in kept)
            seen += kept
        for trait in traits:
            # With two values every rising step is settled.
            if size > 2 or (size == 2 and trait.word != "settled"):
                self.assertTrue(0 < seen.count(trait) < len(list(worlds(steps, size))), str(trait))

    def test_traits_of_one_argument(self):
        for size in (1, 2, 3, 4):
            self.check_all([U], size, [Trait("up", U), Trait("down", U), Trait("settled", U)])

    def test_traits_of_two_steps(self):
        for size in (1, 2, 3):
            self.check_all([U, V], size, [Trait("below", U, V), Trait("below", V, U), Trait("back", U, V),
                                          Trait("back", V, U), Trait("up", U), Trait("settled", V)])

    def test_traits_of_two_arguments(self):
        for size in (1, 2, 3):
            self.check_all([M], size, [Trait("mean", M), Trait("alike", M)])
        for ways in ("--", "??"):
            step = Step("a", ways)
            self.check_all([step], 2, [Trait("alike", step)])
        self.check_all([M, N], 2, [Trait("mean", M), Trait("alike", N), Trait("below", M, N), Trait("below", N, M)])

    def test_below_of_every_kind_of_ways(self):
        for ways in ("-", "?", "+-", "-+", "--", "+?"):
            one, other = Step("a", ways), Step("b", ways)
            self.check_all([one, other], 2, [Trait("below", one, other), Trait("below", other, one)])
        one, other = Step("a", "+-+"), Step("b", "+-+")
        self.check_all([one, other], 2, [Trait("below", one, other), Trait("below", other, one)])

    def test_below_in_one_place_only(self):
        step, other = Step("a", "???"), Step("b", "???")
        flat = (((0, 0), (0, 0)), ((0, 0), (0, 0)))
        for table in ((((1, 0), (0, 0)), flat[1]), (flat[0], ((0, 0), (0, 1))), (((0, 0), (1, 0)), flat[1])):
            world = World(2, [(step, flat), (other, table)])
            self.assertIs(world.keeps(Traits(Trait("below", step, other))), True)
            self.assertIs(world.keeps(Traits(Trait("below", other, step))), False)

    def test_words_of_the_document(self):
        world = World(3, [(U, (1, 2, 2)), (V, (0, 0, 1))])
        self.assertTrue(world.keeps(Traits(Trait("up", U), Trait("down", V), Trait("below", V, U))))
        self.assertTrue(world.keeps(Traits(Trait("down", V))))
        self.assertFalse(world.keeps(Traits(Trait("up", U), Trait("down", V), Trait("settled", U))))
        self.assertFalse(world.keeps(Traits(Trait("back", U, V))))
        self.assertTrue(World(3, [(V, (0, 0, 1)), (U, (1, 2, 2))]).keeps(Traits(Trait("back", V, U))))
        self.assertTrue(World(3, [(U, (0, 1, 2)), (V, (0, 1, 2))]).keeps(Traits(Trait("back", U, V))))

    def test_several_at_once(self):
        steps = (U, V, Step("w", "+"))
        told = [Trait("up", U), Trait("below", U, V), Trait("below", V, steps[2]), Trait("up", steps[2])]
        for tables in product([(0, 0, 0), (0, 1, 2), (1, 1, 2), (2, 2, 2)], repeat=3):
            world = World(3, list(zip(steps, tables)))
            for many in range(5):
                for some in combinations(told, many):
                    self.assertIs(world.keeps(Traits(*some)), all([has(world, trait) for trait in some]))

    def test_no_traits(self):
        for world in (World(1, []), World(2, [(U, (0, 1))]), World(3, [(Step("q", "?"), (2, 0, 1))])):
            self.assertIs(world.keeps(Traits()), True)

    def test_steps_that_the_world_has_not(self):
        world = World(2, [(U, (1, 1)), (M, ((0, 0), (0, 1)))])
        for traits, name in ((Traits(Trait("up", V)), "v"), (Traits(Trait("below", V, U)), "v"),
                             (Traits(Trait("below", U, V)), "v"), (Traits(Trait("mean", N)), "n"),
                             (Traits(Trait("up", Step("a", "+")), Trait("down", Step("b", "+"))), "a"),
                             (Traits(Trait("down", Step("a", "+")), Trait("up", Step("b", "+")), Trait("up", U)), "a"),
                             (Traits(Trait("down", U), Trait("mean", N), Trait("up", V)), "n"),
                             (Traits(Trait("back", Step("z", "+"), Step("y", "+"))), "y"),
                             (Traits(Trait("up", Step("m", "+"))), "m"), (Traits(Trait("mean", Step("u", "++"))), "u")):
            self.check_error(NoStep, name, world.keeps, traits)
            self.check_error(NoStep, traits.steps[0].name, World(1, []).keeps, traits)

    def test_by_name_and_again(self):
        world, traits = World(2, [(U, (0, 1))]), Traits(Trait("up", U))
        for _ in range(2):
            self.assertIs(world.keeps(traits=traits), True)
        self.assertEqual((str(traits), world[U]), ("up u", (0, 1)))


if __name__ == "__main__":
    unittest.main()
