"""The errors of the package."""


class WaysError(ValueError):
    """What every error of the package is."""


class InvalidStep(WaysError):
    """Something that makes no step and no chain of steps."""

    def __init__(self, word):
        self.word = word


class InvalidTrait(WaysError):
    """Something that makes no trait and no set of traits."""

    def __init__(self, word):
        self.word = word


class InvalidExpr(WaysError):
    """Something that makes no expression."""

    def __init__(self, word):
        self.word = word


class InvalidRow(WaysError):
    """Something that makes no row and no program."""

    def __init__(self, word):
        self.word = word


class InvalidText(WaysError):
    """A text that cannot be read, from the line with this number on."""

    def __init__(self, at):
        self.at = at


class InvalidWorld(WaysError):
    """Something that makes no world."""

    def __init__(self, word):
        self.word = word


class InvalidStart(WaysError):
    """A name that starts with something that is no value of the world."""

    def __init__(self, name):
        self.name = name


class InvalidClaim(WaysError):
    """Something that makes no claim, or no claim that can be decided."""

    def __init__(self, word):
        self.word = word


class NoName(WaysError):
    """A name that is needed and not there."""

    def __init__(self, name):
        self.name = name


class NoStep(WaysError):
    """A step that is needed and not there."""

    def __init__(self, name):
        self.name = name


class NoRow(WaysError):
    """A number that no row has."""

    def __init__(self, at):
        self.at = at


class Impossible(WaysError):
    """Suppositions that hold in no world."""
