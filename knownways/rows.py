"""The rows of programs."""

from knownways.errors import InvalidRow
from knownways.exprs import as_expr
from knownways.gathering import all_names, all_steps
from knownways.rowtexts import row_lines
from knownways.words import is_name

RISING_WAYS = ("+", "++", "+++")
MOST_LOOP_ROWS = 3


class Row:
    """What every row is; rows are made by the classes below."""

    def __init__(self, kind, told, exprs=(), inner=(), own_names=()):
        self.kind = kind
        self.told = told
        self.inner = inner
        self.size = 1 + sum([row.size for row in inner])
        self.names = all_names(exprs + inner, own_names)
        self.steps = all_steps(exprs + inner)

    def __eq__(self, other):
        return isinstance(other, Row) and self.kind == other.kind and self.told == other.told

    def __str__(self):
        return "\n".join(row_lines(self))


class Put(Row):
    """The name holds the value of the expression from then on."""

    def __init__(self, name, expr):
        self.name = _set_name(name)
        self.expr = _row_expr(expr)
        Row.__init__(self, "put", (self.name, self.expr), (self.expr,), (), (self.name,))


class Raise(Row):
    """The name holds the greater of its value and the expression's."""

    def __init__(self, name, expr):
        self.name = _set_name(name)
        self.expr = _row_expr(expr)
        Row.__init__(self, "raise", (self.name, self.expr), (self.expr,), (), (self.name,))


class Lower(Row):
    """The name holds the lesser of its value and the expression's."""

    def __init__(self, name, expr):
        self.name = _set_name(name)
        self.expr = _row_expr(expr)
        Row.__init__(self, "lower", (self.name, self.expr), (self.expr,), (), (self.name,))


class Refuse(Row):
    """The run ends, refused with the word."""

    def __init__(self, word):
        if not is_name(word):
            raise InvalidRow("word")
        self.word = word
        Row.__init__(self, "refuse", (word,))


class If(Row):
    """The rows if the left value is not above the right one, else the others."""

    def __init__(self, left, right, rows, others=()):
        self.left = _row_expr(left)
        self.right = _row_expr(right)
        self.rows = checked_rows(rows)
        self.others = checked_rows(others)
        sides = (self.left, self.right)
        told = (self.left, self.right, self.rows, self.others)
        Row.__init__(self, "if", told, sides, self.rows + self.others)


class Still(Row):
    """A loop: its rows again and again, until none of them changes a value."""

    def __init__(self, rows):
        self.rows = checked_rows(rows)
        if not 1 <= len(self.rows) <= MOST_LOOP_ROWS or not all([may_loop(row) for row in self.rows]):
            raise InvalidRow("loop")
        Row.__init__(self, "still", self.rows, (), self.rows)


def checked_rows(value):
    """The tuple of rows that a list or tuple of rows holds."""
    if not isinstance(value, (list, tuple)):
        raise InvalidRow("row")
    if not all([isinstance(row, Row) for row in value]):
        raise InvalidRow("row")
    return tuple(value)


def may_loop(row):
    """Whether the row may stand in a loop."""
    if not isinstance(row, Raise) or row.expr.kind != "step":
        return False
    return row.expr.step.ways in RISING_WAYS and all([part.kind == "name" for part in row.expr.parts])


def _set_name(value):
    if not is_name(value):
        raise InvalidRow("name")
    return value


def _row_expr(value):
    expr = as_expr(value)
    if expr is None:
        raise InvalidRow("expr")
    return expr
