"""What the tests share: errors that are checked whole, and values of all kinds."""

import unittest

from knownways import errors
from knownways.claims import Alike, NeverRefuses, Rises
from knownways.comparisons import Comparison
from knownways.deciding import breach
from knownways.exprs import named
from knownways.programs import Draft, Program
from knownways.rows import If, Lower, Put, Raise, Refuse, Still
from knownways.running import run
from knownways.steps import Chain, Step
from knownways.traits import Trait, Traits
from knownways.worlds import World

# The attribute in which each error keeps its argument.
ARGUMENTS = {
    errors.InvalidStep: "word",
    errors.InvalidTrait: "word",
    errors.InvalidExpr: "word",
    errors.InvalidRow: "word",
    errors.InvalidText: "at",
    errors.InvalidWorld: "word",
    errors.InvalidStart: "name",
    errors.InvalidClaim: "word",
    errors.NoName: "name",
    errors.NoStep: "name",
    errors.NoRow: "at",
}

F = Step("f", "+")
G = Step("g", "-")
H = Step("h", "+-")
K = Step("k", "++?")


def nested(value, depth, kind=list):
    """The value in so many lists or tuples."""
    for _ in range(depth):
        value = kind([value])
    return value


def texts_that_are_no_names():
    return ["", "if", "else", "end", "abcde", "lesser", "X", "aB", "x1", "1", "x ", " x", "x\n", "\n",
            "_", "a_b", "x,y", "f(x)", "+", "-", "?", "*", "[", "{", "`", "@", "x" * 1000]


def plain_values():
    """Integers, bools, None, and lists and tuples of plain values."""
    return [0, 1, -1, 2, 7, 10 ** 40, -10 ** 40, True, False, None, [], (), [[]], ((),), [None], (1, 2),
            ["x"], ("x",), ["x", "y"], ["f", "+"], (None, None), [True, [False, (3, "x")]],
            nested("x", 8), nested(0, 8, tuple), nested(nested(-5, 4, tuple), 4)]


def package_objects():
    """Objects of the package that are neither steps, traits, expressions nor rows."""
    return [Chain(), Chain(F), Chain(F, G), Traits(), Traits(Trait("up", F)), Program(),
            Program([Put("x", "y")]), Draft(), World(2, [(F, (0, 1))]), run(Program(), World(1, []), {}),
            Comparison("x", "<=", F("x")), Alike(Program(), Program(), "x"), Rises(Program(), "x", "y"),
            breach(NeverRefuses(Program([Refuse("no")]))), errors.InvalidStep("name"), errors.NoRow(3), errors.Impossible(),
            errors.WaysError(), [Program()], (Chain(F), [Traits()])]


def some_steps():
    return [Step("f", "+"), Step("g", "-"), Step("f", "?"), Step("h", "+-"), Step("k", "++?")]


def some_traits():
    return [Trait("up", F), Trait("below", F, Step("g", "+"))]


def some_exprs():
    return [named("x"), F("x"), H("x", "y"), named("x") & "y", "x" | F("y")]


def some_rows():
    return [Put("x", "y"), Raise("x", F("y")), Lower("x", "y"), Refuse("no"), If("x", "y", []),
            Still([Raise("x", F("y"))])]


def lists_of(values):
    """The values as one list, one tuple, and each in a list and a tuple of its own."""
    return [list(values), tuple(values)] + [[one] for one in values] + [(one,) for one in values]


def no_steps():
    """Values of all kinds other than steps (and other than names)."""
    return (plain_values() + texts_that_are_no_names() + package_objects() + some_traits()
            + some_exprs() + some_rows() + lists_of(some_steps()))


def no_names():
    """Values of all kinds other than names."""
    return no_steps() + some_steps()


def no_traits():
    return (plain_values() + texts_that_are_no_names() + ["x", "up", "up f"] + package_objects() + some_steps()
            + some_exprs() + some_rows() + lists_of(some_traits()))


def no_parts():
    """Values of all kinds other than expressions and names."""
    return (plain_values() + texts_that_are_no_names() + package_objects() + some_steps() + some_traits()
            + some_rows() + lists_of(some_exprs()))


def no_rows():
    """Values of all kinds other than rows."""
    return (plain_values() + texts_that_are_no_names() + ["x", "end"] + package_objects() + some_steps()
            + some_traits() + some_exprs() + lists_of(some_rows()))


def anything():
    """Values of all kinds."""
    return no_steps() + ["x", "f", "up"] + some_steps() + lists_of(some_traits()) + lists_of(some_rows())


class Case(unittest.TestCase):
    """A test case that looks at errors and at equality whole."""

    def check_error(self, kind, argument, call, *values, **by_name):
        """The call raises just this kind of error, and it keeps this argument."""
        try:
            result = call(*values, **by_name)
        except errors.WaysError as error:
            self.assertTrue(error.__class__ is kind, f"{error!r} for {values!r}")
            self.check_argument(error, kind, argument)
            self.assertIsInstance(error, ValueError)
        else:
            self.fail(f"{kind.__name__} is not raised for {values!r} {by_name!r}, but returned {result!r}")

    def check_argument(self, error, kind, argument):
        kept = getattr(error, ARGUMENTS[kind])
        self.assertTrue(kept.__class__ is argument.__class__ and kept == argument, f"{kept!r} for {argument!r}")

    def check_equal(self, one, other):
        """Both are equal in both directions, also as seen by !=."""
        self.assertTrue((one == other) is True and (other == one) is True, f"{one} == {other}")
        self.assertTrue((one != other) is False and (other != one) is False, f"{one} != {other}")

    def check_unlike(self, one, other):
        self.assertTrue((one == other) is False and (other == one) is False, f"{one!r} == {other!r}")
        self.assertTrue((one != other) is True and (other != one) is True, f"{one!r} != {other!r}")

    def check_all_unlike(self, values):
        """No two of the values, which stand at different places, are equal."""
        for at, one in enumerate(values):
            for other in values[:at]:
                self.check_unlike(one, other)

    def check_listed(self, thing, methods, attributes):
        """The class of the thing defines the methods itself, the thing has its own attributes."""
        for method in methods:
            self.assertIn(method, vars(thing.__class__), f"{thing.__class__.__name__}.{method}")
        for attribute in attributes:
            self.assertIn(attribute, vars(thing), f"{thing.__class__.__name__}.{attribute}")
