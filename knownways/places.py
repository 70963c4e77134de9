"""Places of trees: how far the runs of a claim go on, and what the claim then asks."""

from knownways.facts import Facts
from knownways.judging import goals_of
from knownways.loops import Loop


class Place:
    """A place of a tree, with what is known there and how far the runs have come."""

    def __init__(self, code, facts):
        self.code = code
        self.facts = facts
        # The order that is next, what the cells hold, and what expressions wait for.
        self.at = 0
        self.held = []
        self.pile = []
        self.refused = [None, None]
        self.entered = []
        # What an Always asks, as triples: low, high, and whether it asks for less.
        self.asks = []
        # The terms whose order must be known for the runs to go on.
        self.stuck = None

    def fork(self):
        """The same place once more, which goes on by itself."""
        twin = Place(self.code, self.facts.fork())
        twin.at = self.at
        twin.held = list(self.held)
        twin.pile = list(self.pile)
        twin.refused = list(self.refused)
        twin.entered = list(self.entered)
        twin.asks = list(self.asks)
        return twin

    def go_on(self):
        """Goes on as far as the known facts decide, and makes known all that follows."""
        self.stuck = None
        orders = self.code.orders
        while self.stuck is None and self.at < len(orders) and not self.facts.impossible:
            word, needed = orders[self.at]
            action = ACTIONS[word]
            action(self, needed)
        self.facts.close()

    def goals(self):
        """What the claim asks of the ends, as triples: low, high, and whether it asks for less.

        None if it fails, whatever they are. The runs have ended.
        """
        goals = goals_of(self.code.claim, self.refused, self.entered)
        if goals is None:
            return None
        code, held = self.code, self.held
        return self.asks + [(held[code.cell(low, name)], held[code.cell(high, name)], False)
                            for low, high, name in goals]


def first_place(code, known, enclosed=False):
    """The place at which nothing is told; enclosed, if a least and a greatest value are told of."""
    facts = Facts(known)
    if enclosed:
        facts.enclose()
    claim = code.claim
    place = Place(code, facts)
    begins = [facts.plain_term(name) for name in claim.names]
    place.held = begins * 2
    if claim.turns:
        other = facts.plain_term(claim.into + "'")
        into = code.cell(1, claim.into)
        facts.tell(place.held[into], other, False)
        place.held[into] = other
    return place


def _is_decided(place, low, high, strictly):
    """True if low <= high is known; False if high < low is, or high <= low where that is enough.

    None if neither is known; then the place is stuck here.
    """
    facts = place.facts
    for _ in range(2):
        if facts.is_known(low, high):
            return True
        if facts.is_known_less(high, low) if strictly else facts.is_known(high, low):
            return False
        facts.close()
    place.stuck = (low, high)
    return None


def _get(place, cell):
    place.pile.append(place.held[cell])
    place.at += 1


def _set(place, cell):
    place.held[cell] = place.pile.pop()
    place.at += 1


def _apply(place, step):
    count = len(step)
    parts = tuple(place.pile[-count:])
    del place.pile[-count:]
    place.pile.append(place.facts.applied_term(step, parts))
    place.at += 1


def _lesser(place, _):
    _take_one(place, True)


def _greater(place, _):
    _take_one(place, False)


def _take_one(place, lesser):
    """Keeps one of the last two terms of the pile, if it is known which one."""
    low, high = place.pile[-2:]
    goes_up = _is_decided(place, low, high, False)
    if goes_up is not None:
        del place.pile[-2:]
        place.pile.append(low if goes_up == lesser else high)
        place.at += 1


def _suppose(place, sign):
    high, low = place.pile.pop(), place.pile.pop()
    place.facts.tell(low, high, sign == "<")
    if sign == "==":
        place.facts.tell(high, low, False)
    place.at += 1


def _ask(place, sign):
    high, low = place.pile.pop(), place.pile.pop()
    place.asks.append((low, high, sign == "<"))
    if sign == "==":
        place.asks.append((high, low, False))
    place.at += 1


def _choose(place, other):
    low, high = place.pile[-2:]
    taken = _is_decided(place, low, high, True)
    if taken is not None:
        del place.pile[-2:]
        place.at = place.at + 1 if taken else other


def _enter(place, side):
    place.entered.append(side)
    place.at += 1


def _jump(place, at):
    place.at = at


def _refuse(place, told):
    run, word, at = told
    place.refused[run] = word
    place.at = at


def _loop(place, told):
    run, number, rows, sets = told
    facts, held = place.facts, place.held
    ends = []
    for cell, name in sets:
        end = facts.plain_term(f"end({run}, {number}, {name})")
        facts.tell(held[cell], end, False)
        ends.append((held[cell], end))
    looping = []
    for step, place_set, arguments in rows:
        parts = [held[cell] if at is None else ends[at][1] for at, cell in arguments]
        facts.tell(facts.applied_term(step, tuple(parts)), ends[place_set][1], False)
        begins = [(at, held[cell]) for at, cell in arguments]
        looping.append((step.name, place_set, tuple(begins)))
    facts.loops.append(Loop(tuple(looping), tuple(ends)))
    for (cell, _), (_, end) in zip(sets, ends):
        held[cell] = end
    place.at += 1


ACTIONS = {"get": _get, "set": _set, "apply": _apply, "lesser": _lesser, "greater": _greater, "suppose": _suppose,
           "ask": _ask, "choose": _choose, "enter": _enter, "jump": _jump, "refuse": _refuse, "loop": _loop}
