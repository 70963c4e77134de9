"""Which traits a claim needs in order to hold."""

from knownways.deciding import holds
from knownways.following import known_of_claim
from knownways.traits import Traits


def least_traits(claim, traits):
    """The least subsets of the traits with which the claim holds."""
    holding = _holding(claim, traits)
    least = [chosen for chosen in holding if holding[chosen] and not any(_of(holding, _with_one_less(chosen)))]
    return _in_order(traits, least, 1)


def greatest_failing(claim, traits):
    """The greatest subsets of the traits with which the claim fails."""
    holding = _holding(claim, traits)
    count = len(traits.entries)
    greatest = [chosen for chosen in holding
                if not holding[chosen] and all(_of(holding, _with_one_more(chosen, count)))]
    return _in_order(traits, greatest, -1)


def _holding(claim, traits):
    """For each subset, as an ascending tuple of numbers of entries, whether the claim holds with it."""
    known_of_claim(claim, traits)
    holding = {}
    for chosen in _subsets(len(traits.entries)):
        # Where it holds with less, it holds with more.
        holding[chosen] = any(_of(holding, _with_one_less(chosen))) or holds(claim, _chosen(traits, chosen))
    return holding


def _subsets(count):
    """All ascending tuples of numbers below the count, the shorter ones first."""
    found = [()]
    for chosen in range(count):
        found = found + [(*subset, chosen) for subset in found]
    return sorted(found, key=len)


def _with_one_less(chosen):
    return [chosen[:at] + chosen[at + 1:] for at in range(len(chosen))]


def _with_one_more(chosen, count):
    return [tuple(sorted([*chosen, more])) for more in range(count) if more not in chosen]


def _of(holding, subsets):
    return [holding[chosen] for chosen in subsets]


def _chosen(traits, chosen):
    entries = [traits.entries[at] for at in chosen]
    return Traits(*entries)


def _in_order(traits, subsets, turn):
    """The subsets as Traits: by number of entries, ascending or descending, then by the texts of the entries."""
    # The entries ascend by their texts, so their numbers are in the same order.
    ordered = sorted(subsets, key=lambda chosen: (turn * len(chosen), chosen))
    return tuple([_chosen(traits, chosen) for chosen in ordered])
