"""Loops as sets of rules: which ones end alike, which of their rows are needed, how many rounds they take."""

from knownways.claims import Alike
from knownways.deciding import holds
from knownways.errors import InvalidRow
from knownways.following import known_of
from knownways.gathering import all_names, all_steps
from knownways.programs import Program
from knownways.rows import Still


def settle_alike(rows, others, traits=None):
    """Whether the loops of these rows and of the others end alike from each start in all their names."""
    one, other = Still(rows), Still(others)
    known_of(all_steps((one, other)), (one, other), traits)
    return _end_alike(one, other, traits)


def least_rows(rows, traits=None):
    """The least sets of row numbers whose loop ends alike with the whole one."""
    whole = Still(rows)
    known_of(whole.steps, (whole,), traits)
    found = []
    for chosen in _sets_of_numbers(len(whole.rows)):
        if not any([_is_within(less, chosen) for less in found]):
            if _end_alike(Still([whole.rows[at] for at in chosen]), whole, traits):
                found.append(chosen)
    return tuple(found)


def rounds(rows):
    """The least number of rounds that always do what the loop of the rows does; None if there is none."""
    looping = Still(rows).rows
    steps = [row.expr.step for row in looping]
    if len(all_steps((), steps)) < len(steps):
        raise InvalidRow("step")
    return _greatest_count(looping, list(range(len(looping))), ())


def _end_alike(one, other, traits):
    names = all_names((one, other))
    return holds(Alike(Program([one]), Program([other]), *names), traits)


def _sets_of_numbers(count):
    """All ascending tuples of at least one number below the count, the shorter ones first."""
    found = []
    for number in range(count):
        found = found + [(*chosen, number) for chosen in [(), *found]]
    return sorted(found, key=lambda chosen: (len(chosen), chosen))


def _is_within(less, chosen):
    return all([at in chosen for at in less])


def _greatest_count(rows, starts, behind):
    """The greatest number of a path of feeding from one of the starts; None if one comes back to itself.

    Behind is the path that leads to the starts.
    """
    counts = []
    for at in starts:
        if at in behind:
            return None
        fed = [to for to in range(len(rows)) if _feeds(rows[at], rows[to])]
        rest = _greatest_count(rows, fed, (*behind, at)) if fed else 1
        if rest is None:
            return None
        counts.append(rest + _turns_back(behind, at))
    return max(counts)


def _turns_back(behind, at):
    """1 if the row does not stand behind the one that feeds it."""
    return 1 if behind and at <= behind[-1] else 0


def _feeds(row, other):
    return row.name in [part.word for part in other.expr.parts]
