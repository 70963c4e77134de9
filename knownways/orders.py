"""Orders in which steps of one argument are applied."""

from knownways.claims import Always
from knownways.comparisons import Comparison
from knownways.deciding import holds
from knownways.errors import InvalidStep
from knownways.gathering import all_steps, share_a_name
from knownways.programs import Program
from knownways.steps import Chain

ANY_NAME = "x"


def best_orders(steps, traits=None):
    """The orders of the steps whose result is never above that of any other order."""
    if any([len(step) != 1 for step in steps]):
        raise InvalidStep("chain")
    _check_names(steps)
    chains = [Chain(*order) for order in _orders(list(steps))]
    best = [chain for chain in chains if all([_is_never_above(chain, other, traits) for other in chains])]
    return tuple(sorted(best, key=lambda chain: [step.name for step in chain.steps]))


def compare_chains(one, other, traits=None):
    """Which sign always stands between the results of both chains."""
    _check_names(one.steps + other.steps)
    low = _is_never_above(one, other, traits)
    high = _is_never_above(other, one, traits)
    if low and high:
        return "=="
    if low:
        return "<="
    return ">=" if high else "?"


def _orders(steps):
    """All orders of different steps."""
    if not steps:
        return [()]
    return [(step, *rest) for at, step in enumerate(steps) for rest in _orders(steps[:at] + steps[at + 1:])]


def _check_names(steps):
    if share_a_name(all_steps((), steps)):
        raise InvalidStep("name")


def _is_never_above(one, other, traits):
    return holds(Always(Program(), Comparison(one(ANY_NAME), "<=", other(ANY_NAME))), traits)
