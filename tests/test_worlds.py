"""Point [16]: worlds, made and refused, and their tables."""

import unittest
from itertools import product

from knownways.errors import InvalidWorld, NoStep
from knownways.steps import Step
from knownways.worlds import World
from tests.helpers import F, G, H, Case, anything, nested, no_steps, package_objects
from tests.making import STEPS, Making, entry

A, B = Step("a", "+"), Step("b", "??")
TWO = ((0, 0, 1), (0, 1, 2), (2, 2, 2))


def listed(table):
    """The table with lists in the place of tuples."""
    return [listed(part) for part in table] if isinstance(table, tuple) else table


def mixed(table, depth=0):
    """The table with lists and tuples in turn."""
    if not isinstance(table, tuple):
        return table
    parts = [mixed(part, depth + at + 1) for at, part in enumerate(table)]
    return parts if depth & 1 else tuple(parts)


def flat(size, many):
    """A table whose entries all are 0."""
    return nested_copies(0, size, many)


def nested_copies(value, size, many):
    for _ in range(many):
        value = (value,) * size
    return value


def goes(table, ways):
    """Whether the table goes these ways, by all pairs of places."""
    places = list(product(range(len(table)), repeat=len(ways)))
    for one, other in product(places, places):
        unlike = [at for at in range(len(ways)) if one[at] != other[at]]
        if len(unlike) == 1 and one[unlike[0]] < other[unlike[0]]:
            way, low, high = ways[unlike[0]], entry(table, one), entry(table, other)
            if (way == "+" and low > high) or (way == "-" and low < high):
                return False
    return True


class Made(Case):

    def test_attributes(self):
        world = World(3, [(F, (1, 2, 2)), (B, TWO), (A, (0, 0, 0))])
        self.assertEqual((world.size, world.steps), (3, (A, B, F)))
        self.assertEqual([type(world.size), type(world.steps)], [int, tuple])
        self.assertEqual((World(1, []).steps, World(1, ()).size, World(16, []).size), ((), 1, 16))

    def test_listed(self):
        self.check_listed(World(1, []), ("__init__", "__getitem__", "keeps", "value", "__eq__"), ("size", "steps"))
        self.assertEqual(World.__module__, "knownways.worlds")

    def test_tables_of_lists_and_of_tuples(self):
        for step, table in ((A, (0, 2, 2)), (B, TWO), (Step("c", "???"), (TWO, TWO[::-1], TWO))):
            for told in (table, listed(table), mixed(table), mixed(table, 1)):
                for pair in ((step, told), [step, told]):
                    for pairs in ([pair], (pair,)):
                        self.assertEqual(World(3, pairs)[step], table)

    def test_tables_are_nested_tuples(self):
        world = World(2, [(A, [0, 1]), (B, [[0, 1], [1, 0]]), (Step("c", "???"), [[[0, 1], [1, 0]]] * 2)])
        self.assertEqual([repr(world[step]) for step in world.steps],
                         ["(0, 1)", "((0, 1), (1, 0))", "(((0, 1), (1, 0)), ((0, 1), (1, 0)))"])

    def test_the_first_argument_is_outermost(self):
        world = World(2, [(Step("c", "+-?"), (((0, 0), (0, 0)), ((1, 0), (0, 0))))])
        self.assertEqual(world[Step("c", "+-?")][1][0][0], 1)
        self.check_error(InvalidWorld, "ways", World, 2, [(Step("c", "?-+"), (((0, 0), (0, 0)), ((1, 0), (0, 0))))])

    def test_sizes(self):
        for size in range(1, 17):
            world = World(size, [(A, tuple(range(size))), (G, tuple(range(size - 1, -1, -1)))])
            self.assertEqual((world.size, world[A][-1], world[G][0]), (size, size - 1, size - 1))
        world = World(16, [(B, flat(16, 2))])
        self.assertEqual(len(world[B]), 16)
        world = World(6, [(Step("c", "+++"), flat(6, 3))])
        self.assertEqual(len(world[Step("c", "+++")]), 6)

    def test_one_value(self):
        for ways in ("+", "-", "?", "++", "+-", "-?", "+++", "--?"):
            step = Step("a", ways)
            self.assertEqual(World(1, [(step, flat(1, len(ways)))])[step], flat(1, len(ways)))

    def test_lists_may_change_afterwards(self):
        inner = [0, 1]
        table = [inner, inner]
        pair = [B, table]
        pairs = [pair]
        world = World(2, pairs)
        inner[0] = 7
        table.clear()
        pair[0] = None
        pairs.append(3)
        self.assertEqual((world.steps, world[B]), ((B,), ((0, 1), (0, 1))))
        self.check_equal(world, World(2, [(B, [[0, 1], [0, 1]])]))

    def test_the_arguments_stay(self):
        pairs = [[B, [[0, 1], (1, 0)]], (A, [0, 0])]
        World(2, pairs)
        self.assertEqual(pairs, [[B, [[0, 1], (1, 0)]], (A, [0, 0])])

    def test_arguments_by_name(self):
        self.check_equal(World(tables=[(A, (0, 1))], size=2), World(2, [(A, (0, 1))]))
        self.check_error(InvalidWorld, "size", World, tables=[], size=0)
        self.check_error(InvalidWorld, "pairs", World, tables=[3], size=1)


class Asked(Case):

    def test_a_table(self):
        world = World(3, [(F, [1, 2, 2]), (G, (2, 1, 0))])
        for _ in range(2):
            self.assertEqual((world[F], world[G], world[Step("f", "+")]), ((1, 2, 2), (2, 1, 0), (1, 2, 2)))

    def test_a_step_that_it_has_not(self):
        world = World(2, [(F, (0, 1)), (G, (1, 0))])
        for step in (A, B, H, Step("f", "-"), Step("f", "?"), Step("f", "++"), Step("g", "+"), Step("ff", "+")):
            self.check_error(NoStep, step.name, lambda told, at: told[at], world, step)
            self.check_error(NoStep, step.name, lambda told, at: told[at], World(1, []), step)

    def test_no_iteration(self):
        with self.assertRaises(TypeError):
            list(World(1, []))


class Refused(Case):

    def test_size(self):
        for value in anything() + [0, -1, 17, 16.0, 10 ** 30, -10 ** 30, 2.0]:
            if value.__class__ is not int or not 1 <= value <= 16:
                self.check_error(InvalidWorld, "size", World, value, [])
                self.check_error(InvalidWorld, "size", World, value, None)
                self.check_error(InvalidWorld, "size", World, value, [(A, (1,)), (A, 3)])

    def test_pairs(self):
        for value in anything():
            if not isinstance(value, (list, tuple)):
                self.check_error(InvalidWorld, "pairs", World, 2, value)

    def test_something_in_it_is_no_pair(self):
        for value in anything() + [(A,), [A], (A, (0, 1), 3), [A, [0, 1], None], (A, A, A), ((0, 1), A), [[0, 1], A]]:
            self.check_error(InvalidWorld, "pairs", World, 2, [value])
            self.check_error(InvalidWorld, "pairs", World, 2, (value,))
            self.check_error(InvalidWorld, "pairs", World, 2, [(A, (0, 1)), value])
            self.check_error(InvalidWorld, "pairs", World, 2, (value, (A, (1, 0)), (A, 3)))

    def test_the_first_of_two_is_no_step(self):
        for value in no_steps():
            self.check_error(InvalidWorld, "pairs", World, 2, [(value, (0, 1))])
            self.check_error(InvalidWorld, "pairs", World, 2, [(A, (0, 7)), [value, (0, 1)]])

    def test_two_steps_of_one_name(self):
        for one, other in ((A, A), (A, Step("a", "+")), (A, Step("a", "-")), (A, Step("a", "++"))):
            table, second = flat(2, len(one)), flat(2, len(other))
            self.check_error(InvalidWorld, "name", World, 2, [(one, table), (other, second)])
            self.check_error(InvalidWorld, "name", World, 2, ((other, second), (B, flat(2, 2)), [one, table]))
            self.check_error(InvalidWorld, "name", World, 2, [(one, None), (other, (1, 0))])
            self.check_error(InvalidWorld, "name", World, 2, [(B, 7), (one, table), (other, second)])

    def test_tables_of_any_values(self):
        for value in anything():
            for step, good in ((A, (0, 1)), (B, flat(2, 2)), (Step("c", "++-"), flat(2, 3))):
                self.check_error(InvalidWorld, "table", World, 2, [(step, value)])
                if step != A or value not in (0, 1) or isinstance(value, bool):
                    self.check_error(InvalidWorld, "table", World, 2, [(step, (value, good[1]))])
                self.check_error(InvalidWorld, "table", World, 2, [[step, [good[0], good[1], value]]])
                self.check_error(InvalidWorld, "table", World, 2, [(F, (0, 1)), (step, value)])

    def test_entries(self):
        for value in anything() + [2, 3, -1, 10 ** 30, -10 ** 30, 0.0, 1.0]:
            if value.__class__ is not int or not 0 <= value < 2:
                for told in ((value, 1), [0, value]):
                    self.check_error(InvalidWorld, "table", World, 2, [(A, told)])
                    self.check_error(InvalidWorld, "table", World, 2, [(B, (told, (0, 0)))])
                    self.check_error(InvalidWorld, "table", World, 2, [(B, [(0, 0), told])])
                    self.check_error(InvalidWorld, "table", World, 2, [(Step("c", "???"), [flat(2, 2), [[0, 0], told]])])

    def test_lengths(self):
        for size in (1, 2, 3):
            for step in (A, B, Step("c", "+-?")):
                many = len(step)
                for told in (flat(size + 1, many), flat(size - 1, many), flat(size, many - 1), flat(size, many + 1),
                             (), [], 0, flat(size, many) + flat(size, many), flat(size, many)[1:]):
                    if told != flat(size, many):
                        self.check_error(InvalidWorld, "table", World, size, [(step, told)])
                self.assertEqual(World(size, [(step, flat(size, many))])[step], flat(size, many))
        self.check_error(InvalidWorld, "table", World, 2, [(B, ((0, 0), (0,)))])
        self.check_error(InvalidWorld, "table", World, 2, [(B, ((0,), (0, 0)))])
        self.check_error(InvalidWorld, "table", World, 2, [(B, ((0, 0), (0, 0, 0)))])
        self.check_error(InvalidWorld, "table", World, 2, [(A, nested(0, 8))])

    def test_ways(self):
        for step, told in ((F, (1, 0, 2)), (F, (0, 2, 1)), (F, [2, 2, 0]), (G, (0, 1, 0)), (G, (2, 1, 2)),
                           (H, [(0, 0, 0), (0, 0, 1), (1, 1, 1)]), (H, [(1, 0, 0), (0, 0, 0), (1, 1, 1)])):
            self.check_error(InvalidWorld, "ways", World, 3, [(step, told)])
            self.check_error(InvalidWorld, "ways", World, 3, [(A, (0, 0, 0)), [step, told]])

    def test_all_tables_of_one_argument(self):
        for size in (1, 2, 3):
            for table in product(range(size), repeat=size):
                self.check_ways("+", table, size)
                self.check_ways("-", table, size)
                self.check_ways("?", table, size)

    def test_all_tables_of_two_arguments(self):
        for inner in product(range(2), repeat=4):
            for ways in product("+-?", repeat=2):
                self.check_ways("".join(ways), (inner[:2], inner[2:]), 2)
        for inner in list(product(range(3), repeat=9))[::7]:
            for ways in ("++", "+-", "-+", "--", "+?", "?-"):
                self.check_ways(ways, (inner[:3], inner[3:6], inner[6:]), 3)

    def test_all_tables_of_three_arguments(self):
        for inner in product(range(2), repeat=8):
            table = ((inner[:2], inner[2:4]), (inner[4:6], inner[6:]))
            for ways in product("+-?", repeat=3):
                self.check_ways("".join(ways), table, 2)

    def check_ways(self, ways, table, size):
        step = Step("a", ways)
        if goes(table, ways):
            self.assertEqual(World(size, [(step, listed(table))])[step], table)
        else:
            self.check_error(InvalidWorld, "ways", World, size, [(step, table)])

    def test_the_first_pair_that_is_amiss(self):
        bad, odd = (A, (1, 0)), (G, (0, 2))
        self.check_error(InvalidWorld, "ways", World, 2, [bad, odd])
        self.check_error(InvalidWorld, "table", World, 2, [odd, bad])
        self.check_error(InvalidWorld, "table", World, 2, [(B, flat(2, 2)), odd, bad])
        self.check_error(InvalidWorld, "table", World, 2, [(A, (1, 0, 1))])
        self.check_error(InvalidWorld, "table", World, 3, [(A, (2, 1, 3))])
        self.check_error(InvalidWorld, "table", World, 2, [(Step("z", "+"), (0, 2)), bad])
        self.check_error(InvalidWorld, "ways", World, 2, [(Step("z", "+"), (1, 0)), (A, (0, 2))])

    def test_the_first_word_that_is_amiss(self):
        self.check_error(InvalidWorld, "size", World, 0, None)
        self.check_error(InvalidWorld, "pairs", World, 2, [(A, 3), (A, 3), 5])
        self.check_error(InvalidWorld, "name", World, 2, [(A, 3), (A, (1, 0))])
        for value in package_objects():
            self.check_error(InvalidWorld, "size", World, value, [(A, value)])


class Equal(Case):

    def test_made_in_another_way(self):
        one = World(2, [(A, (0, 1)), (B, ((0, 1), (1, 0)))])
        self.check_equal(one, World(2, ([B, [[0, 1], [1, 0]]], [Step("a", "+"), [0, 1]])))
        self.check_equal(one, one)
        self.check_equal(World(3, []), World(3, ()))

    def test_unlike(self):
        self.check_all_unlike([
            World(1, []), World(2, []), World(3, []), World(2, [(A, (0, 1))]), World(2, [(A, (0, 0))]),
            World(2, [(A, (1, 1))]), World(3, [(A, (0, 1, 1))]), World(2, [(F, (0, 1))]), World(2, [(F, (0, 0))]),
            World(2, [(A, (0, 1)), (F, (0, 0))]), World(2, [(A, (0, 0)), (F, (0, 1))]), World(2, [(B, ((0, 1), (0, 1)))]),
            World(2, [(Step("b", "?+"), ((0, 1), (0, 1)))]), World(2, [(Step("a", "?"), (0, 1))])])

    def test_nothing_else_is_equal(self):
        for value in anything():
            for world in (World(1, []), World(2, [(A, (0, 1))])):
                if not isinstance(value, World):
                    self.check_unlike(world, value)

    def test_worlds_of_all_kinds(self):
        for seed in range(20):
            one, other = Making(seed).world(1 + seed % 4), Making(seed).world(1 + seed % 4)
            self.check_equal(one, other)
            self.check_equal(one, World(one.size, [(step, one[step]) for step in STEPS[::-1]]))


if __name__ == "__main__":
    unittest.main()
