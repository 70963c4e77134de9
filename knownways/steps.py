"""Steps, of which only the ways are known, and chains of them."""

from knownways.errors import InvalidExpr, InvalidStep
from knownways.exprs import applied, part_expr
from knownways.words import is_integer, is_name

WAYS = "+-?"
MOST_ARGUMENTS = 3


class Step:
    """An unknown function of one to three values."""

    def __init__(self, name, ways):
        if not is_name(name):
            raise InvalidStep("name")
        if not _are_ways(ways):
            raise InvalidStep("ways")
        self.name = name
        self.ways = ways

    def __call__(self, first, second=None, third=None):
        given = (first, second, third)
        wanted = [at < len(self) for at in range(MOST_ARGUMENTS)]
        if [part is not None for part in given] != wanted:
            raise InvalidExpr("count")
        return applied(self, [part_expr(part) for part in given[:len(self)]])

    def __mul__(self, other):
        if not isinstance(other, (Step, Chain)):
            return NotImplemented
        return _joined(Chain(self), other)

    def __pow__(self, other):
        if not is_integer(other):
            return NotImplemented
        return _repeated(Chain(self), other)

    def __len__(self):
        return len(self.ways)

    def __eq__(self, other):
        return isinstance(other, Step) and self.name == other.name and self.ways == other.ways

    def __str__(self):
        return f"{self.name} {self.ways}"


class Chain:
    """Steps of one argument, one after another, the last one first."""

    def __init__(self, *steps):
        for step in steps:
            if not isinstance(step, Step) or len(step) != 1:
                raise InvalidStep("chain")
        self.steps = steps

    def __call__(self, part):
        expr = part_expr(part)
        for step in self.steps[::-1]:
            expr = applied(step, [expr])
        return expr

    def __mul__(self, other):
        if not isinstance(other, (Step, Chain)):
            return NotImplemented
        return _joined(self, other)

    def __pow__(self, other):
        if not is_integer(other):
            return NotImplemented
        return _repeated(self, other)

    def __len__(self):
        return len(self.steps)

    def __eq__(self, other):
        return isinstance(other, Chain) and self.steps == other.steps

    def __str__(self):
        return " ".join([step.name for step in self.steps])


def _are_ways(value):
    if not isinstance(value, str) or not 1 <= len(value) <= MOST_ARGUMENTS:
        return False
    return all([way in WAYS for way in value])


def _joined(chain, other):
    links = other.steps if isinstance(other, Chain) else (other,)
    every = chain.steps + links
    return Chain(*every)


def _repeated(chain, count):
    links = chain.steps * count
    return Chain(*links)
