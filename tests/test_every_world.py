"""Point [18]: all worlds of a size."""

import inspect
import unittest
from itertools import product

from knownways.errors import InvalidWorld
from knownways.steps import Step
from knownways.traits import Trait, Traits
from knownways.worlds import World, worlds
from tests.helpers import Case
from tests.making import nested_table

A, B, U = Step("a", "+"), Step("b", "+"), Step("u", "-")
M, N = Step("m", "++"), Step("n", "++")


def tables(step, size):
    """All tables that go the ways of the step, ascending, by trying all there are."""
    places = list(product(range(size), repeat=len(step)))
    found = []
    for entries in product(range(size), repeat=len(places)):
        table = nested_table(dict(zip(places, entries)), size, len(step))
        try:
            found.append(World(size, [(step, table)])[step])
        except InvalidWorld:
            pass
    return found


def seen(world):
    return tuple([world[step] for step in world.steps])


class Every(Case):

    def check_every(self, steps, size):
        """Just the worlds that trying all tables finds, in ascending order."""
        used = sorted(steps, key=lambda step: step.name)
        found = list(worlds(steps, size))
        self.assertEqual([seen(world) for world in found], list(product(*[tables(step, size) for step in used])))
        for world in found:
            self.assertIsInstance(world, World)
            self.assertEqual((world.size, world.steps), (size, tuple(used)))
        return found

    def test_no_steps(self):
        for size in range(1, 5):
            self.assertEqual(self.check_every([], size), [World(size, [])])

    def test_one_step_of_one_argument(self):
        for size in range(1, 5):
            for ways in "+-":
                self.check_every([Step("a", ways)], size)
        for size in (1, 2):
            self.check_every([Step("a", "?")], size)
        self.assertEqual([len(list(worlds([A], size))) for size in range(1, 7)], [1, 3, 10, 35, 126, 462])

    def test_two_steps_of_one_argument(self):
        for size in (1, 2, 3):
            for ways in product("+-", repeat=2):
                self.check_every([Step("a", ways[0]), Step("b", ways[1])], size)
        for size in (1, 2):
            for ways in product("+-?", repeat=2):
                self.check_every([Step("a", ways[0]), Step("b", ways[1])], size)
        self.assertEqual(len(list(worlds([A, U], 4))), 35 * 35)

    def test_one_step_of_two_arguments(self):
        for ways in ("++", "+-", "-+", "--"):
            for size in (1, 2):
                self.check_every([Step("a", ways)], size)
            found = [seen(world) for world in worlds([Step("a", ways)], 3)]
            self.assertEqual((len(found), found), (175, sorted(found)))
            self.assertTrue(all([one < other for one, other in zip(found, found[1:])]))
        self.check_every([M], 3)
        for ways in ("+?", "?-", "??"):
            for size in (1, 2):
                self.check_every([Step("a", ways)], size)

    def test_steps_of_three_arguments(self):
        for ways in ("+++", "+-+", "---", "++?", "?-?", "???"):
            for size in (1, 2):
                self.check_every([Step("a", ways)], size)
        self.assertEqual(len(list(worlds([Step("a", "+++")], 2))), 20)

    def test_two_steps_of_more_arguments(self):
        for one, other in (("+", "++"), ("-", "?"), ("+-", "?"), ("++", "--"), ("+?", "-"), ("+++", "+"), ("+-+", "?+")):
            for size in (1, 2):
                self.check_every([Step("a", one), Step("b", other)], size)

    def test_the_greatest_number_of_worlds(self):
        steps = [Step("a", "???"), Step("b", "???")]
        found = [seen(world) for world in worlds(steps, 2)]
        self.assertEqual(len(found), 2 ** 16)
        self.assertTrue(all([one < other for one, other in zip(found, found[1:])]))

    def test_the_first_ones_come_at_once(self):
        found = worlds([Step("a", "???")], 4)
        one, other = next(found), next(found)
        self.assertEqual((one[Step("a", "???")][3][3], other[Step("a", "???")][3][3]), ((0, 0, 0, 0), (0, 0, 0, 1)))

    def test_steps_in_any_order(self):
        for one, other in ((A, U), (Step("zz", "+"), Step("z", "++")), (Step("b", "?"), Step("ab", "-"))):
            expected = [seen(world) for world in worlds([one, other], 2)]
            for steps in ([other, one], (one, other), (other, one)):
                self.assertEqual([seen(world) for world in worlds(steps, 2)], expected)

    def test_a_step_that_is_told_twice(self):
        self.assertEqual([seen(world) for world in worlds([A, Step("a", "+")], 3)], [seen(world) for world in worlds([A], 3)])


class Keeping(Case):

    def check_kept(self, steps, size, *told):
        """Just those of all worlds that keep the traits, in the same order."""
        traits = Traits(*told)
        found = [seen(world) for world in worlds(steps, size, traits)]
        self.assertEqual(found, [seen(world) for world in worlds(steps, size) if world.keeps(traits)])
        self.assertNotEqual(found, [])
        return len(found)

    def test_one_trait(self):
        for size in range(1, 5):
            for word in ("up", "down", "settled"):
                self.check_kept([A], size, Trait(word, A))
        for size in range(1, 4):
            for word in ("mean", "alike"):
                self.check_kept([M], size, Trait(word, M))
            for word in ("below", "back"):
                self.check_kept([A, B], size, Trait(word, A, B))
                self.check_kept([A, B], size, Trait(word, B, A))
        self.check_kept([Step("a", "???"), Step("b", "???")], 1, Trait("below", Step("b", "???"), Step("a", "???")))
        self.check_kept([Step("a", "+?"), Step("b", "+?")], 2, Trait("below", Step("b", "+?"), Step("a", "+?")))

    def test_counts(self):
        self.assertEqual([self.check_kept([A], size, Trait("up", A)) for size in (1, 2, 3, 4)], [1, 2, 5, 14])
        self.assertEqual([self.check_kept([A], size, Trait("up", A), Trait("down", A)) for size in (1, 2, 3)], [1, 1, 1])
        self.assertEqual([self.check_kept([A, B], size, Trait("back", A, B)) for size in (1, 2, 3)], [1, 2, 6])

    def test_several_traits(self):
        self.check_kept([A, B], 3, Trait("up", A), Trait("below", A, B))
        self.check_kept([A, B], 3, Trait("settled", A), Trait("down", A), Trait("up", B))
        self.check_kept([M], 3, Trait("mean", M), Trait("alike", M))
        self.check_kept([M, N], 2, Trait("mean", M), Trait("alike", N))
        self.check_kept([A, U], 3, Trait("up", A))

    def test_no_traits(self):
        expected = [seen(world) for world in worlds([A, U], 2)]
        for traits in (None, Traits()):
            self.assertEqual([seen(world) for world in worlds([A, U], 2, traits)], expected)
            self.assertEqual([seen(world) for world in worlds(traits=traits, size=2, steps=[A, U])], expected)


class Generator(Case):

    def test_it_is_a_generator(self):
        self.assertTrue(inspect.isgenerator(worlds([A], 2)))
        self.assertTrue(inspect.isgeneratorfunction(worlds))
        self.assertEqual(worlds.__module__, "knownways.worlds")

    def test_the_arguments_are_read_when_it_is_iterated(self):
        steps = [A]
        found = worlds(steps, 2)
        steps[0] = U
        steps.append(B)
        first = next(found)
        self.assertEqual(first.steps, (B, U))
        steps.clear()
        self.assertEqual([seen(world) for world in [first, *found]], [seen(world) for world in worlds([B, U], 2)])

    def test_arguments_stay_and_the_same_call_again(self):
        steps = [U, A]
        first = list(worlds(steps, 2))
        self.assertEqual(steps, [U, A])
        for one, other in zip(first, worlds(steps, 2)):
            self.check_equal(one, other)

    def test_two_at_once(self):
        one, other = worlds([A], 2), worlds([U], 3)
        pairs = list(zip(one, other))
        self.assertEqual([seen(world)[0] for world, _ in pairs], [(0, 0), (0, 1), (1, 1)])
        self.assertEqual([seen(world)[0] for _, world in pairs], [(0, 0, 0), (1, 0, 0), (1, 1, 0)])

    def test_equal_to_worlds_made_by_hand(self):
        self.check_equal(list(worlds([A], 2))[1], World(2, [(A, [0, 1])]))


if __name__ == "__main__":
    unittest.main()
