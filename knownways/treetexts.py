"""The texts of trees."""

from knownways.errors import InvalidText

LEAF = "so"
INDENT = "  "


def show_tree(told):
    """The text of a tree, right or not."""
    return "\n".join(_lines_of(told, ""))


def read_tree(text):
    """The tree of a text."""
    lines = text.split("\n")
    found, stop = _tree_at(lines, 0, "")
    if stop != len(lines):
        raise InvalidText(stop)
    return found


def _lines_of(told, ahead):
    if not told:
        return [ahead + LEAF]
    left, right, one, other = told
    return [f"{ahead}{left} <= {right}", *_lines_of(one, ahead + INDENT),
            f"{ahead}{right} < {left}", *_lines_of(other, ahead + INDENT)]


def _tree_at(lines, at, ahead):
    """The tree that begins with this line, and the number of the line behind it."""
    if at < len(lines) and lines[at] == ahead + LEAF:
        return (), at + 1
    left, right = _sides_in(lines, at, ahead)
    one, stop = _tree_at(lines, at + 1, ahead + INDENT)
    if stop == len(lines) or lines[stop] != f"{ahead}{right} < {left}":
        raise InvalidText(stop)
    other, stop = _tree_at(lines, stop + 1, ahead + INDENT)
    return (left, right, one, other), stop


def _sides_in(lines, at, ahead):
    """The texts of both terms that the line compares."""
    if at == len(lines) or not lines[at].startswith(ahead):
        raise InvalidText(at)
    sides = lines[at][len(ahead):].split(" <= ")
    if len(sides) != 2 or not all([_may_be_term(side) for side in sides]):
        raise InvalidText(at)
    return sides


def _may_be_term(text):
    return text != "" and text == text.strip(" ") and "<" not in text and "=" not in text
