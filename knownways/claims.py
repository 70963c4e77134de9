"""Claims about one or two runs of programs."""

from knownways.comparisons import Comparison
from knownways.errors import InvalidClaim, InvalidStart, NoRow
from knownways.gathering import all_names, all_steps, share_a_name
from knownways.judging import goals_of
from knownways.rows import If
from knownways.rowtexts import lines_of
from knownways.running import course_of
from knownways.starts import check_start
from knownways.words import is_name, is_value


class Claim:
    """What every claim is; claims are made by the classes below."""

    def __init__(self, kind, told, programs, own_names, supposed, asked=()):
        self.kind = kind
        self.told = told
        self.programs = programs
        self.asked = asked
        self.supposed = supposed
        spoken = supposed + asked
        self.names = all_names(programs + spoken, own_names)
        self.steps = all_steps(programs + spoken)
        if share_a_name(self.steps):
            raise InvalidClaim("step")
        # Whether the second run differs from the first by its start, not by its program.
        self.turns = kind in ("rises", "falls")
        runs = programs * 2 if self.turns else programs
        applied = [said.left.applied + said.right.applied for said in spoken]
        self.weight = sum([run.weight for run in runs]) + sum(applied) + int(self.turns)

    def under(self, *comparisons):
        """The same claim with these suppositions behind its own."""
        return self.supposing(self.supposed + comparisons)

    def fails(self, world, start, other=None):
        """Whether the claim fails in the world from the start, with the other value of a second run."""
        check_start(world, self, start)
        if self.turns and not is_value(other, world.size):
            raise InvalidStart(self.into)
        if not all([said.holds(world, start) for said in self.supposed]):
            return False
        if self.turns and other < start[self.into]:
            return False
        starts = [start, {**start, self.into: other}] if self.turns else [start, start]
        runs = self.programs * 2 if self.turns else self.programs
        courses = [course_of(program, world, begin) for program, begin in zip(runs, starts)]
        return _is_broken(self, world, courses)

    def __eq__(self, other):
        return (isinstance(other, Claim) and self.kind == other.kind and self.programs == other.programs
                and self.told == other.told and self.supposed == other.supposed)

    def __str__(self):
        return "\n".join(_lines_of_claim(self))


class Alike(Claim):
    """Both runs are refused with one word, or neither is and the names hold equal values at the ends."""

    def __init__(self, p, q, *names, supposed=()):
        self.p = p
        self.q = q
        self.wanted = _ascending_names(names)
        Claim.__init__(self, "alike", self.wanted, (p, q), self.wanted, _checked_supposed(supposed))

    def supposing(self, supposed):
        """The same claim with these suppositions in the place of its own."""
        return Alike(self.p, self.q, *self.wanted, supposed=supposed)


class NeverAbove(Claim):
    """One run is refused, or the name's value at the end of the first is not above that of the second."""

    def __init__(self, p, q, name, *, supposed=()):
        self.p = p
        self.q = q
        self.name = _checked_name(name)
        Claim.__init__(self, "above", (name,), (p, q), (name,), _checked_supposed(supposed))

    def supposing(self, supposed):
        """The same claim with these suppositions in the place of its own."""
        return NeverAbove(self.p, self.q, self.name, supposed=supposed)


class Rises(Claim):
    """A result is not less where a value at the start is not less."""

    def __init__(self, p, out, into, *, supposed=()):
        self.p = p
        self.out = _checked_name(out)
        self.into = _checked_name(into)
        Claim.__init__(self, "rises", (out, into), (p,), (out, into), _checked_supposed(supposed))

    def supposing(self, supposed):
        """The same claim with these suppositions in the place of its own."""
        return Rises(self.p, self.out, self.into, supposed=supposed)


class Falls(Claim):
    """A result is not greater where a value at the start is not less."""

    def __init__(self, p, out, into, *, supposed=()):
        self.p = p
        self.out = _checked_name(out)
        self.into = _checked_name(into)
        Claim.__init__(self, "falls", (out, into), (p,), (out, into), _checked_supposed(supposed))

    def supposing(self, supposed):
        """The same claim with these suppositions in the place of its own."""
        return Falls(self.p, self.out, self.into, supposed=supposed)


class NeverRefuses(Claim):
    """The run is not refused with one of the words, or with any word if there are none."""

    def __init__(self, p, *words, supposed=()):
        self.p = p
        self.words = _ascending_names(words)
        Claim.__init__(self, "refuses", self.words, (p,), (), _checked_supposed(supposed))

    def supposing(self, supposed):
        """The same claim with these suppositions in the place of its own."""
        return NeverRefuses(self.p, *self.words, supposed=supposed)


class Always(Claim):
    """The run is refused, or the comparison holds of the values at its end."""

    def __init__(self, p, comparison, *, supposed=()):
        self.p = p
        self.comparison = _checked_comparison(comparison)
        asked = (comparison,)
        Claim.__init__(self, "always", asked, (p,), (), _checked_supposed(supposed), asked)

    def supposing(self, supposed):
        """The same claim with these suppositions in the place of its own."""
        return Always(self.p, self.comparison, supposed=supposed)


class NeverTaken(Claim):
    """The run does not enter a side of an If."""

    def __init__(self, p, at, side, *, supposed=()):
        self.p = p
        self.at = at
        self.side = side
        checked = _checked_supposed(supposed)
        if not isinstance(p[at], If):
            raise NoRow(at)
        Claim.__init__(self, "taken", (at, side), (p,), (), checked)

    def supposing(self, supposed):
        """The same claim with these suppositions in the place of its own."""
        return NeverTaken(self.p, self.at, self.side, supposed=supposed)


def _checked_name(value):
    if not is_name(value):
        raise InvalidClaim("name")
    return value


def _ascending_names(values):
    return tuple(sorted(set([_checked_name(value) for value in values])))


def _checked_comparison(value):
    if not isinstance(value, Comparison):
        raise InvalidClaim("comparison")
    return value


def _checked_supposed(value):
    if not isinstance(value, (list, tuple)):
        raise InvalidClaim("comparison")
    return tuple([_checked_comparison(said) for said in value])


def _is_broken(claim, world, courses):
    """Whether these courses of the runs are not as the claim says."""
    goals = goals_of(claim, [course.refused for course in courses], courses[0].entered)
    if goals is None:
        return True
    if not all([courses[low].held[name] <= courses[high].held[name] for low, high, name in goals]):
        return True
    ends_well = courses[0].refused is None
    return ends_well and not all([said.holds(world, courses[0].held) for said in claim.asked])


def _lines_of_claim(claim):
    second = ["against", *lines_of(claim.programs[1].rows)] if len(claim.programs) == 2 else []
    return [_first_line(claim), *[f"suppose {said}" for said in claim.supposed],
            *lines_of(claim.programs[0].rows), *second]


def _first_line(claim):
    if claim.kind == "taken":
        side = "rows" if claim.side else "others"
        return f"taken {claim.at} {side}"
    return " ".join([claim.kind, *[str(said) for said in claim.told]])
