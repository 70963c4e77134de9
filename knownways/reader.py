"""Reading the texts of programs."""

from knownways.errors import InvalidText
from knownways.exprreader import read_expr
from knownways.programs import Program
from knownways.rows import MOST_LOOP_ROWS, If, Lower, Put, Raise, Refuse, Still, may_loop
from knownways.words import is_name

IF_START = "if "
SIGNS = ("=", "|=", "&=")


def read(text, steps):
    """The program of a text in which only these steps may occur."""
    lines = text.split("\n") if text else []
    rows, _ = _rows_at(lines, 0, steps, ())
    return Program(rows)


def _rows_at(lines, at, steps, closing):
    """The rows up to a line that closes their block, and the number of this line."""
    rows = []
    while at < len(lines) and lines[at] not in closing:
        row, at = _row_at(lines, at, steps)
        rows.append(row)
    if closing and at == len(lines):
        raise InvalidText(at)
    return rows, at


def _row_at(lines, at, steps):
    """The row that begins with this line, and the number of the line behind it."""
    if lines[at] == "still":
        return _loop_at(lines, at, steps)
    if lines[at].startswith(IF_START):
        return _choice_at(lines, at, steps)
    return _plain_row(lines, at, steps), at + 1


def _loop_at(lines, at, steps):
    rows = []
    at += 1
    while at < len(lines) and lines[at] != "end":
        row = _plain_row(lines, at, steps)
        if not may_loop(row):
            raise InvalidText(at)
        rows.append(row)
        at += 1
    if at == len(lines) or not 1 <= len(rows) <= MOST_LOOP_ROWS:
        raise InvalidText(at)
    return Still(rows), at + 1


def _choice_at(lines, at, steps):
    sides = lines[at][len(IF_START):].split(" <= ")
    if len(sides) != 2:
        raise InvalidText(at)
    left, right = [_expr_in_line(side, at, steps) for side in sides]
    rows, stop = _rows_at(lines, at + 1, steps, ("else", "end"))
    others = []
    if lines[stop] == "else":
        others, stop = _rows_at(lines, stop + 1, steps, ("end",))
    return If(left, right, rows, others), stop + 1


def _plain_row(lines, at, steps):
    """The row that this line is by itself, without a block."""
    words = lines[at].split(" ", 2)
    if len(words) == 2 and words[0] == "refuse" and is_name(words[1]):
        return Refuse(words[1])
    if len(words) != 3 or not is_name(words[0]) or words[1] not in SIGNS:
        raise InvalidText(at)
    expr = _expr_in_line(words[2], at, steps)
    if words[1] == "=":
        return Put(words[0], expr)
    return Raise(words[0], expr) if words[1] == "|=" else Lower(words[0], expr)


def _expr_in_line(text, at, steps):
    try:
        return read_expr(text, steps)
    except InvalidText:
        raise InvalidText(at) from None
