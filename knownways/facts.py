"""What is known of the order of present terms."""

from knownways.loops import bounds_of_ends
from knownways.rules import rules_beside, rules_of


class Facts:
    """Present terms, numbered from 0 on, and the facts that are known of them.

    A fact is one bit: `up[a]` has the bit of each b with a <= b, `above[a]` of each b with
    a < b, and `down` and `below` the other way round.
    """

    def __init__(self, known):
        self.known = known
        # Of each term its word, the numbers of its parts (None if it is not applied) and its ways.
        self.terms = []
        self.numbers = {}
        self.applied = []
        self.up = []
        self.down = []
        self.above = []
        self.below = []
        # What is not yet known: triples of pairs needed, and the pair that follows.
        self.rules = []
        self.loops = []
        # The terms of the least and of the greatest value, if facts about these are needed.
        self.ends = []
        self.changed = False
        self.impossible = False

    def enclose(self):
        """Adds the least and the greatest value that a world has, and what back traits ask of them."""
        least, greatest = self.plain_term("least"), self.plain_term("greatest")
        self.ends = [least, greatest]
        for step in self.known.steps:
            if step.name in self.known.uppers:
                self.tell(self.applied_term(step, (least,)), least, False)
            if step.name in self.known.lowers:
                self.tell(greatest, self.applied_term(step, (greatest,)), False)

    def fork(self):
        """The same facts once more, to which others are added."""
        twin = Facts(self.known)
        twin.terms = list(self.terms)
        twin.numbers = {key: self.numbers[key] for key in self.numbers}
        twin.applied = list(self.applied)
        twin.up = list(self.up)
        twin.down = list(self.down)
        twin.above = list(self.above)
        twin.below = list(self.below)
        twin.rules = list(self.rules)
        twin.loops = list(self.loops)
        twin.ends = self.ends
        twin.changed = self.changed
        twin.impossible = self.impossible
        return twin

    def plain_term(self, word):
        """The number of the term of a name or an end, which is present from then on."""
        at = self.numbers.get((word, None))
        return self._new_term(word, None, "") if at is None else at

    def applied_term(self, step, parts):
        """The number of the term of a step applied to terms, which is present from then on."""
        at = self.numbers.get((step.name, parts))
        if at is not None:
            return at
        at = self._new_term(step.name, parts, step.ways)
        self.rules.extend(rules_of(self, at))
        for other in self.applied:
            self.rules.extend(rules_beside(self, at, other))
            self.rules.extend(rules_beside(self, other, at))
        self.applied.append(at)
        return at

    def _new_term(self, word, parts, ways):
        at = len(self.terms)
        self.terms.append((word, parts, ways))
        self.numbers[(word, parts)] = at
        self.up.append(1 << at)
        self.down.append(1 << at)
        self.above.append(0)
        self.below.append(0)
        self.changed = True
        if self.ends:
            self.tell(self.ends[0], at, False)
            self.tell(at, self.ends[1], False)
        return at

    def is_known(self, low, high):
        """Whether low <= high is known."""
        return self.up[low] >> high & 1 == 1

    def is_known_less(self, low, high):
        """Whether low < high is known."""
        return self.above[low] >> high & 1 == 1

    def tell(self, low, high, strictly):
        """Makes low <= high known, or low < high, and what follows by rule 1."""
        known = self.above if strictly else self.up
        if known[low] >> high & 1:
            return
        self.changed = True
        against = self.up if strictly else self.above
        if against[high] >> low & 1:
            self.impossible = True
        up, above = self.up[high], self.above[high]
        down, below = self.down[low], self.below[low]
        for at in bits_of(down):
            self.up[at] |= up
            self.above[at] |= up if strictly or below >> at & 1 else above
        for at in bits_of(up):
            self.down[at] |= down
            self.below[at] |= down if strictly or above >> at & 1 else below

    def close(self):
        """Makes known all that follows."""
        while self.changed and not self.impossible:
            self.changed = False
            self._follow_rules()
            if not self.changed:
                self._follow_loops()

    def _follow_rules(self):
        up = self.up
        left = []
        for rule in self.rules:
            needs, low, high = rule
            if up[low] >> high & 1:
                continue
            if all([up[one] >> other & 1 for one, other in needs]):
                self.tell(low, high, False)
            else:
                left.append(rule)
        self.rules = left

    def _follow_loops(self):
        for loop in self.loops:
            for end, bounds in bounds_of_ends(self, loop):
                for bound in bits_of(bounds):
                    self.tell(end, bound, False)


def bits_of(mask):
    """The numbers of the bits of a mask, ascending."""
    found = []
    while mask:
        low = mask & -mask
        found.append(low.bit_length() - 1)
        mask ^= low
    return found
