"""Reading the texts of expressions."""

from knownways.errors import InvalidText
from knownways.exprs import applied, named
from knownways.words import LETTERS, is_name


def read_expr(text, steps):
    """The expression of a text in which only these steps may occur."""
    known = {step.name: step for step in steps}
    expr, at = _expr_at(text, 0, known)
    if at != len(text):
        raise InvalidText(0)
    return expr


def _expr_at(text, at, known):
    """The expression that begins here, and the place behind it."""
    stop = _word_end(text, at)
    word = text[at:stop]
    if text[stop:stop + 1] == "(":
        parts, stop = _parts_at(text, stop + 1, known)
        return _put_together(word, parts, known), stop
    if not is_name(word):
        raise InvalidText(0)
    return named(word), stop


def _word_end(text, at):
    while at < len(text) and text[at] in LETTERS:
        at += 1
    return at


def _parts_at(text, at, known):
    """The expressions up to the closing parenthesis, and the place behind it."""
    part, at = _expr_at(text, at, known)
    parts = [part]
    while text[at:at + 2] == ", ":
        part, at = _expr_at(text, at + 2, known)
        parts.append(part)
    if text[at:at + 1] != ")":
        raise InvalidText(0)
    return parts, at + 1


def _put_together(word, parts, known):
    if word in ("lesser", "greater"):
        if len(parts) != 2:
            raise InvalidText(0)
        return parts[0] & parts[1] if word == "lesser" else parts[0] | parts[1]
    step = known.get(word)
    if step is None or len(step) != len(parts):
        raise InvalidText(0)
    return applied(step, parts)
