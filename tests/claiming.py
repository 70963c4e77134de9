"""Claims of all kinds for the tests, and all small worlds in which to look for those that fail."""

from itertools import product
from random import Random

from knownways.claims import Alike, Always, Falls, NeverAbove, NeverRefuses, NeverTaken, Rises
from knownways.comparisons import Comparison
from knownways.errors import InvalidClaim, InvalidTrait
from knownways.exprs import named
from knownways.following import known_of_claim
from knownways.programs import Program
from knownways.rows import If, Lower, Put, Raise, Refuse, Still
from knownways.steps import Step
from knownways.traits import Trait, Traits
from knownways.worlds import worlds

POOL = [Step("f", "+"), Step("g", "+"), Step("d", "-"), Step("q", "?"), Step("m", "++"), Step("h", "+-"),
        Step("n", "--"), Step("u", "??"), Step("t", "+++")]
WORDS = ["up", "down", "settled", "mean", "alike", "below", "back"]
KINDS = ["alike", "above", "rises", "falls", "refuses", "always", "taken"]
SIGNS = ["<=", "<", "=="]


class Claiming:
    """Makes claims within limits, by a row of numbers that depends on the seed alone."""

    def __init__(self, seed, pool=tuple(POOL), names=("x", "y"), weight=5, loops=True):
        self.chance = Random(seed)
        self.pool = list(pool)
        self.names = list(names)
        self.most = weight
        self.loops = loops
        self.steps = self.pool

    def one_of(self, values):
        return values[self.chance.randrange(len(values))]

    def name(self):
        return self.one_of(self.names)

    def expr(self, depth=2):
        kind = self.chance.randrange(6) if depth else 0
        if kind < 2:
            return named(self.name())
        if kind == 2:
            left, right = self.expr(depth - 1), self.expr(depth - 1)
            return left & right if self.chance.randrange(2) else left | right
        step = self.one_of(self.steps)
        return step(*[self.expr(depth - 1) for _ in step.ways])

    def row(self, depth=1):
        kind = self.chance.randrange(9 if depth else 6)
        if kind == 5:
            return Refuse(self.one_of(["no", "bad"])) if self.chance.randrange(3) == 0 else Put(self.name(), self.expr())
        if kind < 5:
            return (Put, Put, Put, Raise, Lower)[kind](self.name(), self.expr())
        if kind == 6 and self.loops and self.rising():
            return self.loop()
        return If(self.expr(1), self.expr(1), self.rows(depth - 1), self.rows(depth - 1))

    def rising(self):
        return [step for step in self.steps if set(step.ways) == {"+"}]

    def loop(self):
        rows = []
        for _ in range(self.one_of([1, 1, 2, 3])):
            step = self.one_of(self.rising())
            rows.append(Raise(self.name(), step(*[self.name() for _ in step.ways])))
        return Still(rows)

    def rows(self, depth):
        return [self.row(depth) for _ in range(self.chance.randrange(3))]

    def program(self):
        return Program(self.rows(1) + self.rows(1))

    def comparison(self, depth=2):
        return Comparison(self.expr(depth), self.one_of(SIGNS), self.expr(depth))

    def supposed(self):
        return [self.comparison(1) for _ in range(self.one_of([0, 0, 1, 1, 2]))]

    def any_claim(self, kind):
        told = {"supposed": self.supposed()}
        p, q = self.program(), self.program()
        if kind == "alike":
            return Alike(p, q, *[name for name in self.names if self.chance.randrange(2)], **told)
        if kind == "above":
            return NeverAbove(p, q, self.name(), **told)
        if kind == "rises":
            return Rises(p, self.name(), self.name(), **told)
        if kind == "falls":
            return Falls(p, self.name(), self.name(), **told)
        if kind == "refuses":
            words = ["no"] if self.chance.randrange(2) else []
            return NeverRefuses(p + Program([Refuse("no")]) if not p.words else p, *words, **told)
        if kind == "always":
            return Always(p, self.comparison(), **told)
        choices = [at for at in range(len(p)) if isinstance(p[at], If)]
        if not choices:
            p, choices = p + Program([If(self.expr(1), self.expr(1), [])]), [len(p)]
        return NeverTaken(p, self.one_of(choices), bool(self.chance.randrange(2)), **told)

    def claim(self, kinds=tuple(KINDS)):
        """A claim of a weight that is not too great."""
        while True:
            self.steps = self.chance.sample(self.pool, min(self.chance.randrange(1, 4), len(self.pool)))
            found = self.any_claim(self.one_of(list(kinds)))
            if found.weight <= self.most:
                return found

    def traits(self, claim, words=tuple(WORDS), most=3, others=True):
        """Traits with which the claim may be decided, of its steps and of further ones."""
        steps = list(claim.steps) + ([Step("a", "+"), Step("b", "+")] if others else [])
        while steps:
            found = []
            for _ in range(self.chance.randrange(most + 1)):
                try:
                    word = self.one_of(list(words))
                    count = 2 if word in ("below", "back") else 1
                    found.append(Trait(word, *[self.one_of(steps) for _ in range(count)]))
                except InvalidTrait:
                    pass
            try:
                made = Traits(*found)
                known_of_claim(claim, made)
                return made
            except (InvalidTrait, InvalidClaim):
                continue
        return Traits()


def starts(names, size):
    for values in product(range(size), repeat=len(names)):
        yield dict(zip(names, values))


def fails_in(claim, world):
    """Whether the claim fails in the world from some start."""
    others = range(world.size) if isinstance(claim, (Rises, Falls)) else [None]
    return any(claim.fails(world, start, other) for start in starts(claim.names, world.size) for other in others)


def least_failing(claim, traits, most):
    """The size of the smallest world, of so many values at most, in which the claim fails; None if there is none."""
    traits = Traits() if traits is None else traits
    steps = sorted({step.name: step for step in (*claim.steps, *traits.steps)}.values(), key=lambda step: step.name)
    for size in range(1, most + 1):
        if any(fails_in(claim, world) for world in worlds(steps, size, traits)):
            return size
    return None
