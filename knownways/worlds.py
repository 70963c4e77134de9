"""Worlds: so many values, and a table for each of some steps."""

from knownways.errors import InvalidWorld, NoStep
from knownways.fillings import bounds_of, least_filling, next_filling, tables_of
from knownways.gathering import all_steps, share_a_name
from knownways.starts import check_start, check_steps, worth_of
from knownways.steps import Step
from knownways.tables import checked_table, has_trait
from knownways.traits import Traits
from knownways.words import is_integer

MOST_VALUES = 16


class World:
    """Values from 0 on, and what some steps give for them."""

    def __init__(self, size, tables):
        if not is_integer(size) or not 1 <= size <= MOST_VALUES:
            raise InvalidWorld("size")
        if not isinstance(tables, (list, tuple)) or not all([_is_pair(pair) for pair in tables]):
            raise InvalidWorld("pairs")
        steps = [pair[0] for pair in tables]
        if share_a_name(steps):
            raise InvalidWorld("name")
        self.tables = {(step.name, step.ways): checked_table(step, table, size) for step, table in tables}
        self.size = size
        self.steps = all_steps((), steps)

    def __getitem__(self, at):
        table = self.tables.get((at.name, at.ways))
        if table is None:
            raise NoStep(at.name)
        return table

    def __iter__(self):
        raise TypeError("a world is not iterated over, its steps are")

    def keeps(self, traits):
        """Whether the tables have all these traits."""
        check_steps(self, traits.steps)
        # What follows from told traits is so in every world that keeps those.
        return all([has_trait(trait.word, [self[step] for step in trait.steps]) for trait in traits.entries])

    def value(self, expr, start):
        """The value of an expression from a start."""
        check_start(self, expr, start)
        return worth_of(expr, self, start)

    def __eq__(self, other):
        # The keys of the tables tell the steps.
        return isinstance(other, World) and self.size == other.size and self.tables == other.tables


def worlds(steps, size, traits=None):
    """All worlds of a size with just these steps that keep the traits, ascending by their tables."""
    used = all_steps((), steps)
    told = Traits() if traits is None else traits
    bounds = bounds_of(used, size)
    filled = least_filling([], bounds)
    while filled is not None:
        world = World(size, tables_of(used, size, filled))
        if world.keeps(told):
            yield world
        filled = next_filling(filled, bounds, size)


def _is_pair(value):
    return isinstance(value, (list, tuple)) and len(value) == 2 and isinstance(value[0], Step)
