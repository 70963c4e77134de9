"""Whether claims hold in all worlds, and worlds in which they fail."""

from knownways.building import world_of
from knownways.following import known_of_claim
from knownways.gathering import all_steps
from knownways.searching import Search


class Breach:
    """A world and a start from which a claim fails, with the other value of a second run."""

    def __init__(self, world, start, other):
        self.world = world
        self.start = start
        self.other = other


def holds(claim, traits=None):
    """Whether the claim holds in every world that keeps the traits, from every start."""
    known = known_of_claim(claim, traits)
    return Search(claim, known, None).tree() is not None


def breach(claim, traits=None):
    """A breach with the fewest values that there can be; None if the claim holds."""
    known = known_of_claim(claim, traits)
    if Search(claim, known, None).tree() is not None:
        return None
    size = 1
    search = Search(claim, known, size)
    while search.tree() is not None:
        size += 1
        search = Search(claim, known, size)
    return _breach_of(search, claim, known)


def _breach_of(search, claim, known):
    facts, levels = search.failing.facts, search.levels
    world = world_of(facts, levels, all_steps((claim, known)), search.most)
    start = {name: levels[facts.plain_term(name)] for name in claim.names}
    other = levels[facts.plain_term(claim.into + "'")] if claim.turns else None
    return Breach(world, start, other)
