"""The texts of terms."""

from knownways.errors import InvalidText
from knownways.gathering import all_steps
from knownways.words import LETTERS

END_START = "end("
STROKE = "'"
MOST_STEPS_WITHIN = 20


def text_of(facts, term):
    """The text of a present term."""
    word, parts, _ = facts.terms[term]
    if parts is None:
        return word
    inner = ", ".join([text_of(facts, part) for part in parts])
    return f"{word}({inner})"


def term_of_text(place, text):
    """The term of a text, which is present from then on; None if any value is no text of a term there."""
    if not isinstance(text, str):
        return None
    reading = Reading(place, text)
    try:
        return reading.whole()
    except InvalidText:
        return None


class Reading:
    """The reading of the text of a term at a place of a tree."""

    def __init__(self, place, text):
        self.facts = place.facts
        self.text = text
        self.steps = {step.name: step for step in all_steps((place.code.claim, place.facts.known))}

    def whole(self):
        """The term of the whole text."""
        term, stop = self._term_at(0, 0)
        if stop != len(self.text):
            raise InvalidText(0)
        return term

    def _term_at(self, at, depth):
        """The term that begins here, within so many steps, and the place behind it."""
        if self.text.startswith(END_START, at):
            return self._end_at(at)
        stop = at
        while stop < len(self.text) and self.text[stop] in LETTERS:
            stop += 1
        word = self.text[at:stop]
        following = self.text[stop:stop + 1]
        if following == "(":
            return self._applied_at(word, stop + 1, depth + 1)
        if following == STROKE:
            return self._plain(word + STROKE), stop + 1
        return self._plain(word), stop

    def _plain(self, word):
        """The present term of a name or an end."""
        term = self.facts.numbers.get((word, None))
        if term is None:
            raise InvalidText(0)
        return term

    def _end_at(self, at):
        stop = self.text.find(")", at) + 1
        return self._plain(self.text[at:stop]), stop

    def _applied_at(self, word, at, depth):
        step = self.steps.get(word)
        if step is None or depth > MOST_STEPS_WITHIN:
            raise InvalidText(0)
        parts = []
        for place in range(len(step)):
            if place > 0:
                at = self._behind(", ", at)
            part, at = self._term_at(at, depth)
            parts.append(part)
        return self.facts.applied_term(step, tuple(parts)), self._behind(")", at)

    def _behind(self, sign, at):
        """The place behind a sign, which stands here."""
        if not self.text.startswith(sign, at):
            raise InvalidText(0)
        return at + len(sign)
