"""Runs of programs in worlds."""

from knownways.starts import check_start, worth_of


class Ending:
    """How a run ended, and what the names of its start hold then."""

    def __init__(self, refused, at, held):
        self.refused = refused
        self.at = at
        self.held = held

    def __eq__(self, other):
        return isinstance(other, Ending) and self.refused == other.refused and self.held == other.held


class Course:
    """What a run has done so far."""

    def __init__(self, world, start):
        self.world = world
        self.held = dict(start)
        self.refused = None
        self.at = None
        # The numbers of the Ifs it came to, each with the side it entered.
        self.entered = []


def run(program, world, start):
    """The ending of a run of the program in the world from the start."""
    check_start(world, program, start)
    course = course_of(program, world, start)
    return Ending(course.refused, course.at, course.held)


def course_of(program, world, start):
    """The course of a whole run from a start that fits."""
    course = Course(world, start)
    _run_rows(program.rows, 0, course)
    return course


def _run_rows(rows, at, course):
    """Runs rows, the first of which has this number, until one of them refuses."""
    for row in rows:
        if course.at is None:
            _run_row(row, at, course)
        at += row.size


def _run_row(row, at, course):
    if row.kind == "refuse":
        course.at = at
        course.refused = row.word
    elif row.kind == "if":
        _run_side(row, at, course)
    elif row.kind == "still":
        _run_loop(row.rows, course)
    else:
        _set_worth(row, course)


def _run_side(row, at, course):
    side = worth_of(row.left, course.world, course.held) <= worth_of(row.right, course.world, course.held)
    course.entered.append((at, side))
    if side:
        _run_rows(row.rows, at + 1, course)
    else:
        # The numbers of the others begin behind those of the rows.
        _run_rows(row.others, at + 1 + sum([inner.size for inner in row.rows]), course)


def _run_loop(rows, course):
    before = None
    while course.held != before:
        before = dict(course.held)
        for row in rows:
            _set_worth(row, course)


def _set_worth(row, course):
    worth = worth_of(row.expr, course.world, course.held)
    if row.kind == "raise":
        worth = max(course.held[row.name], worth)
    if row.kind == "lower":
        worth = min(course.held[row.name], worth)
    course.held[row.name] = worth
