"""All ways of filling the tables of some steps, in ascending order.

A filling is the list of all entries of the tables, table by table.
"""


def bounds_of(steps, size):
    """For each entry the numbers of those ahead that it is not below, and of those that it is not above."""
    bounds = []
    for step in steps:
        numbers = {}
        for place in _places(len(step), size):
            numbers[place] = len(bounds)
            bounds.append((_ahead(step, place, "+", numbers), _ahead(step, place, "-", numbers)))
    return bounds


def least_filling(entries, bounds):
    """The filling that begins with these entries and goes on with the least ones."""
    filled = list(entries)
    for not_below, _ in bounds[len(entries):]:
        filled.append(max([0, *[filled[at] for at in not_below]]))
    return filled


def next_filling(filled, bounds, size):
    """The least filling behind this one; None behind the last one."""
    for at in reversed(range(len(filled))):
        most = min([size - 1, *[filled[ahead] for ahead in bounds[at][1]]])
        if filled[at] < most:
            return least_filling([*filled[:at], filled[at] + 1], bounds)
    return None


def tables_of(steps, size, filled):
    """Pairs of each step and its table."""
    pairs = []
    at = 0
    for step in steps:
        table, at = _table_at(filled, at, size, len(step))
        pairs.append((step, table))
    return pairs


def _places(count, size):
    """All tuples of so many values, ascending."""
    places = [()]
    for _ in range(count):
        places = [(*place, value) for place in places for value in range(size)]
    return places


def _ahead(step, place, way, numbers):
    """The numbers of the entries whose arguments are the same but for one less by one, in which the step goes so."""
    found = []
    for at, value in enumerate(place):
        if value > 0 and step.ways[at] == way:
            ahead = (*place[:at], value - 1, *place[at + 1:])
            found.append(numbers[ahead])
    return found


def _table_at(filled, at, size, depth):
    """The table that begins with this entry, and the number of the entry behind it."""
    if depth == 0:
        return filled[at], at + 1
    parts = []
    for _ in range(size):
        part, at = _table_at(filled, at, size, depth - 1)
        parts.append(part)
    return parts, at
