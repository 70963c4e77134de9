"""Programs, and drafts of them."""

from knownways.errors import InvalidRow, NoRow
from knownways.exprs import named
from knownways.gathering import all_names, all_steps, share_a_name
from knownways.rows import Put, Refuse, checked_rows
from knownways.rowtexts import lines_of
from knownways.words import is_integer


class Program:
    """Rows that a run does one after the other."""

    def __init__(self, rows=()):
        self.rows = checked_rows(rows)
        self.names = all_names(self.rows)
        self.steps = all_steps(self.rows)
        if share_a_name(self.steps):
            raise InvalidRow("step")
        self.numbered = tuple(_in_line_order(self.rows))
        words = [row.word for row in self.numbered if isinstance(row, Refuse)]
        self.words = tuple(sorted(set(words)))
        self.weight = _weight_of(self.rows)

    def __getitem__(self, at):
        if not 0 <= at < len(self.numbered):
            raise NoRow(at)
        return self.numbered[at]

    def __iter__(self):
        raise TypeError("a program is not iterated over, its rows are")

    def __add__(self, other):
        if not isinstance(other, Program):
            return NotImplemented
        return Program(self.rows + other.rows)

    def __mul__(self, other):
        if not is_integer(other):
            return NotImplemented
        return Program(self.rows * other)

    def __rmul__(self, other):
        if not is_integer(other):
            return NotImplemented
        return Program(self.rows * other)

    def __len__(self):
        return len(self.numbered)

    def __eq__(self, other):
        return isinstance(other, Program) and self.rows == other.rows

    def __str__(self):
        return "\n".join(lines_of(self.rows))


class Draft:
    """Rows that are collected for a program."""

    def __init__(self):
        self.made = Program()

    def __getitem__(self, at):
        return named(at)

    def __setitem__(self, at, worth):
        self.made = Program(self.made.rows + (Put(at, worth),))

    def __iter__(self):
        raise TypeError("a draft is not iterated over")

    def add(self, row):
        """Adds a row, if it makes a program with the rows so far."""
        self.made = Program(self.made.rows + (row,))

    def program(self):
        """The program of the rows so far."""
        return self.made

    def __len__(self):
        return len(self.made)


def _in_line_order(rows):
    found = []
    for row in rows:
        found.append(row)
        found.extend(_in_line_order(row.inner))
    return found


def _weight_of(rows):
    return sum([_row_weight(row) for row in rows])


def _row_weight(row):
    if row.kind == "refuse":
        return 0
    if row.kind == "still":
        return len(row.rows) + len({inner.name for inner in row.rows})
    if row.kind == "if":
        sides = row.left.applied + row.right.applied
        return sides + max(_weight_of(row.rows), _weight_of(row.others))
    return row.expr.applied
