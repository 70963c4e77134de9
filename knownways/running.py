"""Runs of programs in worlds."""

from knownways.starts import check_start, worth_of


class Ending:
    """How a run ended, and what the names of its start hold then."""

    def __init__(self, refused, at, held):
        self.refused = refused
        self.at = at
        self.held = held

    def __eq__(self, other):
        return isinstance(other, Ending) and self.refused == other.refused and self.held == other.held


def run(program, world, start):
    """The ending of a run of the program in the world from the start."""
    check_start(world, program, start)
    held = dict(start)
    at = _run_rows(program.rows, 0, world, held)
    refused = None if at is None else program[at].word
    return Ending(refused, at, held)


def _run_rows(rows, at, world, held):
    """Runs rows, the first of which has this number; the number of the row that refused, or None."""
    for row in rows:
        refused_at = _run_row(row, at, world, held)
        if refused_at is not None:
            return refused_at
        at += row.size
    return None


def _run_row(row, at, world, held):
    if row.kind == "refuse":
        return at
    if row.kind == "if":
        return _run_side(row, at + 1, world, held)
    if row.kind == "still":
        _run_loop(row.rows, world, held)
    else:
        _set_worth(row, world, held)
    return None


def _run_side(row, at, world, held):
    """Runs one side of an If, whose rows behind it begin with this number."""
    if worth_of(row.left, world, held) <= worth_of(row.right, world, held):
        return _run_rows(row.rows, at, world, held)
    return _run_rows(row.others, at + sum([inner.size for inner in row.rows]), world, held)


def _run_loop(rows, world, held):
    before = None
    while held != before:
        before = dict(held)
        for row in rows:
            _set_worth(row, world, held)


def _set_worth(row, world, held):
    worth = worth_of(row.expr, world, held)
    if row.kind == "raise":
        worth = max(held[row.name], worth)
    if row.kind == "lower":
        worth = min(held[row.name], worth)
    held[row.name] = worth
