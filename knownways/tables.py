"""The tables of steps: their form, their ways and their traits."""

from knownways.errors import InvalidWorld
from knownways.words import is_integer, is_value


def checked_table(step, value, size):
    """The table of a step as nested tuples, if any value makes one."""
    table = _nested(value, size, len(step))
    if not _goes(table, step.ways):
        raise InvalidWorld("ways")
    return table


def has_trait(word, tables):
    """Whether the tables of the steps of a trait with this word have it."""
    if word == "below":
        return _never_above(tables[0], tables[1])
    if word == "back":
        return _is_back(tables[0], tables[1])
    has_it = OF_ONE_STEP[word]
    return has_it(tables[0])


def _nested(value, size, depth):
    if depth == 0:
        if not is_value(value, size):
            raise InvalidWorld("table")
        return value
    if not isinstance(value, (list, tuple)) or len(value) != size:
        raise InvalidWorld("table")
    return tuple([_nested(inner, size, depth - 1) for inner in value])


def _goes(table, ways):
    """Whether the table goes each of the ways, the first one in its outermost tuple."""
    if len(ways) > 1 and not all([_goes(inner, ways[1:]) for inner in table]):
        return False
    if ways[0] == "+":
        return all([_never_above(one, other) for one, other in zip(table, table[1:])])
    if ways[0] == "-":
        return all([_never_above(other, one) for one, other in zip(table, table[1:])])
    return True


def _never_above(one, other):
    if is_integer(one):
        return one <= other
    return all([_never_above(low, high) for low, high in zip(one, other)])


def _is_up(table):
    return all([at <= worth for at, worth in enumerate(table)])


def _is_down(table):
    return all([worth <= at for at, worth in enumerate(table)])


def _is_settled(table):
    return all([table[worth] == worth for worth in table])


def _is_mean(table):
    return all([min(at, by) <= worth <= max(at, by)
                for at, inner in enumerate(table) for by, worth in enumerate(inner)])


def _is_alike(table):
    return all([worth == table[by][at] for at, inner in enumerate(table) for by, worth in enumerate(inner)])


def _is_back(one, other):
    return all([(worth <= by) == (at <= back) for at, worth in enumerate(one) for by, back in enumerate(other)])


OF_ONE_STEP = {"up": _is_up, "down": _is_down, "settled": _is_settled, "mean": _is_mean, "alike": _is_alike}
