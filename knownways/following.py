"""The traits that steps have: those that are told and those that follow from them."""

from knownways.errors import InvalidClaim
from knownways.gathering import all_steps, share_a_name
from knownways.traits import Traits


class Known:
    """What is known of steps, by their names."""

    def __init__(self, traits):
        pairs = [[step.name for step in trait.steps] for trait in traits.entries if trait.word == "below"]
        self.steps = traits.steps
        # Each step that is below others, with all of these.
        self.over = _all_over(pairs)
        # Each word of a trait of one step, with the steps that have it.
        self.having = _having(traits.entries, self.over)
        # The upper partner of each lower step of a back trait, and the other way round.
        self.uppers = {}
        self.lowers = {}
        for trait in traits.entries:
            if trait.word == "back":
                low, high = trait.steps
                self.uppers[low.name] = high.name
                self.lowers[high.name] = low.name

    def has(self, word, name):
        """Whether the step of this name has the trait of one step with this word."""
        return name in self.having.get(word, ())

    def is_below(self, low, high):
        """Whether the one step is the other or is below it."""
        return low == high or high in self.over.get(low, ())

    def may_loop(self, name):
        """Whether the step has no trait with which loops are not decided."""
        for concerned in [name, *self.over.get(name, [])]:
            if concerned in self.uppers or concerned in self.lowers:
                return False
            if any([word != "up" and self.has(word, concerned) for word in self.having]):
                return False
        return True


def known_of(steps, rows, traits):
    """What is known where something with these steps and these rows is decided."""
    told = Traits() if traits is None else traits
    if share_a_name(all_steps((told,), steps)):
        raise InvalidClaim("step")
    known = Known(told)
    for row in rows:
        if row.kind == "still" and not all([known.may_loop(step.name) for step in row.steps]):
            raise InvalidClaim("loop")
    return known


def known_of_claim(claim, traits):
    """What is known where the claim is decided."""
    rows = []
    for program in claim.programs:
        rows.extend(program.numbered)
    return known_of(claim.steps, rows, traits)


def _all_over(pairs):
    found = {}
    for low, _ in pairs:
        found[low] = []
        left = [low]
        while left:
            at = left.pop()
            above = [high for name, high in pairs if name == at and high not in found[low]]
            found[low].extend(above)
            left.extend(above)
    return found


def _having(entries, over):
    found = {"up": [], "down": []}
    for trait in entries:
        if len(trait.steps) == 1:
            found.setdefault(trait.word, []).append(trait.steps[0].name)
    for name in list(found["up"]):
        found["up"].extend(over.get(name, []))
    downs = list(found["down"])
    found["down"].extend([name for name in over if any([high in downs for high in over[name]])])
    return found
