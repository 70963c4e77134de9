"""Desks, at which suppositions are tried out."""

from knownways.claims import Always, NeverRefuses
from knownways.comparisons import Comparison
from knownways.deciding import breach, holds
from knownways.errors import Impossible
from knownways.programs import Program
from knownways.rows import Refuse
from knownways.traits import Traits

ANY_WORD = "no"
# What compare answers, with the sign that then stands between the sides, and whether these are exchanged.
ANSWERS = (("==", "==", False), ("<", "<", False), ("<=", "<=", False), (">", "<", True), (">=", "<=", True))


class Desk:
    """Traits, and a row of suppositions that are possible with them."""

    def __init__(self, traits=None):
        self.told = Traits() if traits is None else traits
        self.supposed = ()

    @property
    def traits(self):
        """The traits that the steps have."""
        return self.told

    @traits.setter
    def traits(self, value):
        self.change_traits(value)

    def change_traits(self, traits):
        """Puts these traits in the place of those so far."""
        told = Traits() if traits is None else traits
        _check_possible(self.supposed, told)
        self.told = told

    def suppose(self, comparison):
        """Adds a supposition."""
        supposed = self.supposed + (comparison,)
        _check_possible(supposed, self.told)
        self.supposed = supposed

    def take_back(self):
        """Removes the last supposition; whether there was one."""
        had_one = len(self.supposed) > 0
        self.supposed = self.supposed[:-1]
        return had_one

    def supposing(self, comparison):
        """A context manager, within whose block the comparison is supposed, too."""
        return Supposing(self, comparison)

    def within(self, comparison, work):
        """What the work gives for the desk, where the comparison is supposed, too."""
        with self.supposing(comparison) as desk:
            return work(desk)

    def compare(self, left, right):
        """The sign that stands between both in all starts in which the suppositions hold."""
        for answer, sign, exchanged in ANSWERS:
            sides = (right, left) if exchanged else (left, right)
            if self.is_sure(Comparison(sides[0], sign, sides[1])):
                return answer
        return "?"

    def is_sure(self, comparison):
        """Whether the comparison holds in all starts in which the suppositions hold."""
        return holds(Always(Program(), comparison, supposed=self.supposed), self.told)

    def holds(self, claim):
        """Whether the claim holds with the suppositions besides its own."""
        return holds(claim.under(*self.supposed), self.told)

    def breach(self, claim):
        """A breach of the claim with the suppositions besides its own; None if it holds."""
        return breach(claim.under(*self.supposed), self.told)

    def __len__(self):
        return len(self.supposed)


class Supposing:
    """A block in which a comparison is supposed at a desk, and behind which the desk is as it was."""

    def __init__(self, desk, comparison):
        self.desk = desk
        self.comparison = comparison

    def __enter__(self):
        self.told = self.desk.told
        self.supposed = self.desk.supposed
        self.desk.suppose(self.comparison)
        return self.desk

    def __exit__(self, kind, value, trace):
        desk = self.desk
        desk.told = self.told
        desk.supposed = self.supposed


def _check_possible(supposed, traits):
    """Raises an error unless the suppositions hold in some start of some world with these traits."""
    # Where they hold in none, a run that is refused at once breaks no claim.
    if holds(NeverRefuses(Program([Refuse(ANY_WORD)]), supposed=supposed), traits):
        raise Impossible()
