"""Expressions: names, applied steps, the lesser and the greater of two."""

from knownways.errors import InvalidExpr
from knownways.gathering import all_names, all_steps
from knownways.words import is_name


class Expr:
    """An expression. It is made by named(), by calling a step, by & and by |."""

    def __init__(self, kind, word, step, parts):
        own_names = [word] if kind == "name" else []
        own_steps = [] if step is None else [step]
        self.kind = kind
        self.word = word
        self.step = step
        self.parts = parts
        self.names = all_names(parts, own_names)
        self.steps = all_steps(parts, own_steps)
        self.size = 1 + sum([part.size for part in parts])
        # Weights count a step as often as it stands, steps tells it once.
        self.applied = len(own_steps) + sum([part.applied for part in parts])

    def __and__(self, other):
        return _lesser(self, part_expr(other))

    def __rand__(self, other):
        return _lesser(part_expr(other), self)

    def __or__(self, other):
        return _greater(self, part_expr(other))

    def __ror__(self, other):
        return _greater(part_expr(other), self)

    def __len__(self):
        return len(range(self.size))

    def __eq__(self, other):
        return (isinstance(other, Expr) and self.kind == other.kind and self.word == other.word
                and self.step == other.step and self.parts == other.parts)

    def __str__(self):
        return str(_text(self))


def named(word):
    """The expression of a name."""
    if not is_name(word):
        raise InvalidExpr("name")
    return Expr("name", word, None, ())


def applied(step, parts):
    """The step applied to as many expressions as it has arguments."""
    return Expr("step", "", step, tuple(parts))


def as_expr(value):
    """The expression that an Expr or a name stands for; None for any other value."""
    if isinstance(value, Expr):
        return value
    return named(value) if is_name(value) else None


def part_expr(value):
    """The expression of a part of an expression, which is an Expr or a name."""
    expr = as_expr(value)
    if expr is None:
        raise InvalidExpr("part")
    return expr


def _lesser(left, right):
    return Expr("lesser", "", None, (left, right))


def _greater(left, right):
    return Expr("greater", "", None, (left, right))


def _text(expr):
    if expr.kind == "name":
        return expr.word
    head = expr.kind if expr.step is None else expr.step.name
    inner = ", ".join([str(part) for part in expr.parts])
    return f"{head}({inner})"
