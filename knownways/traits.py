"""Traits that are told of steps, and sets of them."""

from knownways.errors import InvalidTrait
from knownways.gathering import all_steps, share_a_name
from knownways.steps import Step

STEP_COUNTS = {"up": 1, "down": 1, "settled": 1, "mean": 1, "alike": 1, "below": 2, "back": 2}
FITTING_WAYS = {
    "up": ("+",),
    "down": ("+",),
    "settled": ("+",),
    "mean": ("++",),
    "alike": ("++", "--", "??"),
    "back": ("+",),
}
NOT_BESIDE_BELOW = ("settled", "mean", "alike")


class Trait:
    """Something that is told of one or two steps."""

    def __init__(self, word, *steps):
        if not isinstance(word, str) or word not in STEP_COUNTS:
            raise InvalidTrait("word")
        if not _are_steps(steps, STEP_COUNTS[word]):
            raise InvalidTrait("steps")
        if not _ways_fit(word, steps):
            raise InvalidTrait("ways")
        self.word = word
        self.steps = steps

    def __eq__(self, other):
        return isinstance(other, Trait) and self.word == other.word and self.steps == other.steps

    def __str__(self):
        return " ".join([self.word, *[step.name for step in self.steps]])


class Traits:
    """A set of traits."""

    def __init__(self, *traits):
        for trait in traits:
            if not isinstance(trait, Trait):
                raise InvalidTrait("trait")
        steps = all_steps(traits)
        if share_a_name(steps):
            raise InvalidTrait("name")
        entries = _each_once(traits)
        if _back_is_shared(entries):
            raise InvalidTrait("back")
        if _below_is_shared(entries):
            raise InvalidTrait("below")
        self.entries = entries
        self.steps = steps

    def is_part_of(self, others):
        """Whether all entries are in the others, too."""
        return all([entry in others.entries for entry in self.entries])

    def __or__(self, other):
        if not isinstance(other, Traits):
            return NotImplemented
        found = self.entries + other.entries
        return Traits(*found)

    def __and__(self, other):
        if not isinstance(other, Traits):
            return NotImplemented
        found = [entry for entry in self.entries if entry in other.entries]
        return Traits(*found)

    def __sub__(self, other):
        if not isinstance(other, Traits):
            return NotImplemented
        found = _without(self.entries, other.entries)
        return Traits(*found)

    def __xor__(self, other):
        if not isinstance(other, Traits):
            return NotImplemented
        found = _without(self.entries, other.entries) + _without(other.entries, self.entries)
        return Traits(*found)

    def __len__(self):
        return len(self.entries)

    def __bool__(self):
        return bool(self.entries)

    def __contains__(self, x):
        return x in self.entries

    def __eq__(self, other):
        return isinstance(other, Traits) and self.entries == other.entries

    def __str__(self):
        return "\n".join([str(entry) for entry in self.entries])


def _are_steps(steps, count):
    if len(steps) != count or not all([isinstance(step, Step) for step in steps]):
        return False
    return count == 1 or steps[0] != steps[1]


def _ways_fit(word, steps):
    ways = steps[0].ways
    if any([step.ways != ways for step in steps]):
        return False
    return word == "below" or ways in FITTING_WAYS[word]


def _each_once(traits):
    # Where no two steps have one name, unlike traits have unlike texts.
    by_text = {str(trait): trait for trait in traits}
    return tuple([by_text[text] for text in sorted(by_text)])


def _without(entries, others):
    return [entry for entry in entries if entry not in others]


def _back_is_shared(entries):
    for entry in entries:
        others = [other for other in entries if other != entry]
        if entry.word == "back" and _share_with_any(entry, others):
            return True
    return False


def _below_is_shared(entries):
    apart = [entry for entry in entries if entry.word in NOT_BESIDE_BELOW]
    return any([entry.word == "below" and _share_with_any(entry, apart) for entry in entries])


def _share_with_any(trait, others):
    used = all_steps(others)
    return any([step in used for step in trait.steps])
