"""Trees of comparisons that show that claims hold."""

from knownways.codes import Code
from knownways.following import known_of_claim
from knownways.places import first_place
from knownways.searching import Search, is_seen
from knownways.termtexts import term_of_text


def tree(claim, traits=None):
    """Some right tree of the claim; None if it does not hold."""
    return Search(claim, known_of_claim(claim, traits), None).tree()


def tree_holds(claim, traits, told):
    """Whether any value is a right tree of the claim."""
    place = first_place(Code(claim), known_of_claim(claim, traits))
    return _is_right(told, place)


def _is_right(told, place):
    """Whether the value is a tree that is right at this place."""
    if not isinstance(told, tuple):
        return False
    place.go_on()
    if not told:
        return place.facts.impossible or is_seen(place)
    if len(told) != 4 or place.facts.impossible:
        return False
    left, right, one, other = told
    low, high = term_of_text(place, left), term_of_text(place, right)
    if low is None or high is None:
        return False
    twin = place.fork()
    place.facts.tell(low, high, False)
    twin.facts.tell(high, low, True)
    return _is_right(one, place) and _is_right(other, twin)
