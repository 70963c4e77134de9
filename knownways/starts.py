"""What expressions are worth in a world, from values that names hold at the start."""

from knownways.errors import InvalidStart, NoName, NoStep
from knownways.words import is_value


def check_start(world, holder, start):
    """Raises an error unless the world has all steps and the start all names of the holder, each with a value."""
    check_steps(world, holder.steps)
    for name in holder.names:
        if name not in start:
            raise NoName(name)
    for name in sorted(start):
        if not is_value(start[name], world.size):
            raise InvalidStart(name)


def check_steps(world, steps):
    """Raises an error for the first step that the world has not."""
    for step in steps:
        if step not in world.steps:
            raise NoStep(step.name)


def worth_of(expr, world, held):
    """The value of an expression where names hold these values."""
    if expr.kind == "name":
        return held[expr.word]
    parts = [worth_of(part, world, held) for part in expr.parts]
    if expr.kind == "lesser":
        return min(parts)
    if expr.kind == "greater":
        return max(parts)
    found = world[expr.step]
    for part in parts:
        found = found[part]
    return found
