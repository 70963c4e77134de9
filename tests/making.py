"""Programs and worlds of all kinds for the tests, the same ones each time."""

from itertools import product
from random import Random

from knownways.exprs import named
from knownways.programs import Program
from knownways.rows import If, Lower, Put, Raise, Refuse, Still
from knownways.steps import Step
from knownways.worlds import World

RISING = [Step("f", "+"), Step("m", "++"), Step("t", "+++")]
STEPS = [*RISING, Step("g", "-"), Step("q", "?"), Step("h", "+-"), Step("k", "++?"), Step("x", "--")]
# Also names that steps have, and words that rows end with.
NAMES = ["x", "y", "f", "abcd"]
WORDS = ["no", "x", "f"]


class Making:
    """Makes one thing after another, by a row of numbers that depends on the seed alone."""

    def __init__(self, seed):
        self.chance = Random(seed)

    def name(self):
        return self.chance.choice(NAMES)

    def expr(self, depth=2):
        kind = self.chance.randrange(5) if depth else 0
        if kind < 2:
            return named(self.name())
        if kind == 2:
            left, right = self.expr(depth - 1), self.expr(depth - 1)
            return left & right if self.chance.randrange(2) else left | right
        step = self.chance.choice(STEPS)
        return step(*[self.expr(depth - 1) for _ in step.ways])

    def row(self, depth=2):
        kind = self.chance.randrange(8 if depth else 4)
        if kind == 3:
            return Refuse(self.chance.choice(WORDS)) if not self.chance.randrange(3) else Put(self.name(), self.name())
        if kind < 3:
            return (Put, Raise, Lower)[kind](self.name(), self.expr())
        if kind == 4:
            return self.loop()
        return If(self.expr(1), self.expr(1), self.rows(depth - 1), self.rows(depth - 1))

    def loop(self):
        rows = []
        for _ in range(self.chance.randrange(1, 4)):
            step = self.chance.choice(RISING)
            rows.append(Raise(self.name(), step(*[self.name() for _ in step.ways])))
        return Still(rows)

    def rows(self, depth):
        return [self.row(depth) for _ in range(self.chance.randrange(4))]

    def program(self):
        return Program(self.rows(2) + [self.row(2)])

    def table(self, step, size):
        """A table that goes the ways of the step, as nested lists."""
        made = {}
        for place in product(range(size), repeat=len(step)):
            low, high = 0, size - 1
            for at, way in enumerate(step.ways):
                ahead = made.get((*place[:at], place[at] - 1, *place[at + 1:]))
                if ahead is not None:
                    low = max(low, ahead) if way == "+" else low
                    high = min(high, ahead) if way == "-" else high
            made[place] = self.chance.randrange(low, high + 1)
        return nested_table(made, size, len(step))

    def world(self, size, steps=tuple(STEPS)):
        return World(size, [(step, self.table(step, size)) for step in steps])

    def start(self, size, names=tuple(NAMES)):
        return {name: self.chance.randrange(size) for name in names}


def nested_table(made, size, depth, place=()):
    """The nested lists of the results for places."""
    if depth == 0:
        return made[place]
    return [nested_table(made, size, depth - 1, (*place, at)) for at in range(size)]


def entry(table, place):
    """The result that a table has for the values of its arguments."""
    for at in place:
        table = table[at]
    return table


def applied(table):
    """The function that looks its values up in the table."""
    return lambda *values: entry(table, values)
