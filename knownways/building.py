"""Worlds in which present terms have given values."""

from knownways.worlds import World


class Entries:
    """What is known of the table of a step: pairs of arguments and a result."""

    def __init__(self, facts, levels, step, size):
        self.step = step
        self.size = size
        self.known = facts.known
        name = step.name
        partner = self.known.uppers.get(name, self.known.lowers.get(name))
        # The pairs of all steps that this one cannot be above, its own ones too.
        self.bounds = []
        # Those of its partner in a back trait.
        self.partners = []
        for term in facts.applied:
            word, parts, _ = facts.terms[term]
            pair = (tuple([levels[part] for part in parts]), levels[term])
            if self.known.is_below(name, word):
                self.bounds.append(pair)
            if word == partner:
                self.partners.append(pair)

    def has(self, word):
        """Whether the step has the trait of one step with this word."""
        return self.known.has(word, self.step.name)


def world_of(facts, levels, steps, size):
    """A world of a size with these steps, in which the terms have these values and the traits are kept."""
    return World(size, [(step, _table(Entries(facts, levels, step, size), ())) for step in steps])


def _table(entries, values):
    """The table of a step behind these values of its first arguments."""
    if len(values) < len(entries.step):
        return tuple([_table(entries, (*values, value)) for value in range(entries.size)])
    name = entries.step.name
    if name in entries.known.uppers:
        return _lower_partner(values[0], entries.bounds, entries.partners)
    if name in entries.known.lowers:
        return _upper_partner(values[0], entries)
    if entries.has("settled"):
        return _settled(values[0], entries)
    return _greatest(values, entries)


def _greatest(values, entries):
    """The greatest result that there may be, so that loops end as high as they may."""
    found = [entries.size - 1]
    ways = entries.step.ways
    for bound, worth in entries.bounds:
        if _is_before(ways, values, bound):
            found.append(worth)
        if entries.has("alike") and _is_before(ways, (values[1], values[0]), bound):
            found.append(worth)
    if entries.has("mean"):
        found.append(max(values))
    if entries.has("down"):
        found.append(values[0])
    return min(found)


def _is_before(ways, values, bound):
    """Whether a step that goes these ways gives no more for the values than for the bound."""
    for way, value, other in zip(ways, values, bound):
        if way != "-" and value > other or way != "+" and value < other:
            return False
    return True


def _settled(value, entries):
    """What a step gives that settles: one of the results that are known, or else the value itself."""
    pairs = [(bound[0], worth) for bound, worth in entries.bounds]
    pairs.extend([(worth, worth) for _, worth in list(pairs)])
    if entries.has("up"):
        above = [worth for argument, worth in pairs if value <= argument]
        return value if entries.has("down") or not above else min(above)
    below = [worth for argument, worth in pairs if argument <= value]
    return max(below) if below else value


def _lower_partner(value, bounds, partners):
    """The least result that there may be, as the upper partner gives what is known of it."""
    found = [worth for bound, worth in bounds if bound[0] <= value]
    return max([0, *found, *[bound[0] + 1 for bound, worth in partners if worth < value]])


def _upper_partner(value, entries):
    """The greatest value for which the lower partner is not above this one."""
    return max([at for at in range(entries.size)
                if _lower_partner(at, entries.partners, entries.bounds) <= value])
