"""The search for a right tree of a claim, or for values with which it fails.

Where the runs stop, the terms that they wait for are compared. Where they have ended and the
claim fails by what is known, the terms get the least values that the facts leave. If these
hurt no rule, the claim fails with them; else something that the rule needs is not known yet,
and so it is compared next: so nothing is compared that does not matter.
"""

from knownways.codes import Code
from knownways.levels import levels_of, open_pair
from knownways.places import first_place
from knownways.termtexts import text_of


class Search:
    """A search for a tree of a claim; or, if `most` is not None, for a world of so many values at most."""

    def __init__(self, claim, known, most):
        self.place = first_place(Code(claim), known, most is not None and len(known.uppers) > 0)
        self.most = most
        # The place at which the claim fails, and the values of its terms there.
        self.failing = None
        self.levels = []

    def tree(self):
        """A tree, right if the values are not bounded; None if the claim fails."""
        return self._tree_at(self.place)

    def _tree_at(self, place):
        place.go_on()
        if place.facts.impossible:
            return ()
        if is_seen(place):
            return ()
        levels = levels_of(place.facts)
        if self.most is not None and max([0, *levels]) >= self.most:
            return ()
        pair = place.stuck
        if pair is None:
            pair = _open_goal(place)
        if pair is None:
            pair = open_pair(place.facts, levels)
        if pair is None:
            self.failing = place
            self.levels = levels
            return None
        return self._split(place, pair)

    def _split(self, place, pair):
        """The tree of a place that goes on with each order of two terms."""
        low, high = pair
        other = place.fork()
        texts = (text_of(place.facts, low), text_of(place.facts, high))
        place.facts.tell(low, high, False)
        one_tree = self._tree_at(place)
        if one_tree is None:
            return None
        other.facts.tell(high, low, True)
        other_tree = self._tree_at(other)
        return None if other_tree is None else (*texts, one_tree, other_tree)


def is_seen(place):
    """Whether the runs have ended at a place, and the claim holds by what is known there."""
    if place.stuck is not None:
        return False
    goals = place.goals()
    return goals is not None and all([_is_reached(place.facts, goal) for goal in goals])


def _is_reached(facts, goal):
    low, high, strictly = goal
    return facts.is_known_less(low, high) if strictly else facts.is_known(low, high)


def _is_missed(facts, goal):
    low, high, strictly = goal
    return facts.is_known(high, low) if strictly else facts.is_known_less(high, low)


def _open_goal(place):
    """The terms of a goal that is neither reached nor missed; None if the claim fails where the goals stand."""
    goals = place.goals()
    if goals is None or any([_is_missed(place.facts, goal) for goal in goals]):
        return None
    low, high, strictly = [goal for goal in goals if not _is_reached(place.facts, goal)][0]
    return (high, low) if strictly else (low, high)
