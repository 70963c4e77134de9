"""Rule 9: loops that a run has come to, and the bounds of what they end with."""


class Loop:
    """A loop in a run: its rows, and the terms at its beginning and at its end.

    `sets` has for each name that is set in it the pair of its terms at the beginning and at
    the end. `rows` has for each row the name of its step, the place in `sets` of the name
    that it sets, and for each argument the pair of the place of its name in `sets` (None if
    the loop does not set it) and of its term at the beginning.
    """

    def __init__(self, rows, sets):
        self.rows = rows
        self.sets = sets


def bounds_of_ends(facts, loop):
    """Pairs of an end and the bits of new bounds that follow for it."""
    found = []
    for choice in _choices(facts, loop):
        for place, (begin, end) in enumerate(loop.sets):
            bounds = facts.up[begin]
            for row, term in zip(loop.rows, choice):
                if row[1] == place:
                    bounds &= facts.up[term]
            bounds &= ~facts.up[end]
            if bounds:
                found.append((end, bounds))
    return found


def _choices(facts, loop):
    """All ways to choose a present term for each row that rule 9 asks for."""
    choices = [()]
    for row in loop.rows:
        terms = [term for term in facts.applied if _may_be_chosen(facts, row, term)]
        choices = [(*choice, term) for choice in choices for term in terms
                   if _go_together(facts, loop.rows, (*choice, term))]
    return choices


def _may_be_chosen(facts, row, term):
    word, parts, _ = facts.terms[term]
    step, _, arguments = row
    if not facts.known.is_below(step, word):
        return False
    return all([facts.up[begin] >> part & 1 for (_, begin), part in zip(arguments, parts)])


def _go_together(facts, rows, choice):
    """Whether the term chosen last is below the arguments of the others that it is asked to be below."""
    last = len(choice) - 1
    for at, term in enumerate(choice):
        if not _feeds_below(facts, rows[at], term, rows[last], choice[last]):
            return False
        if not _feeds_below(facts, rows[last], choice[last], rows[at], term):
            return False
    return True


def _feeds_below(facts, feeding, fed, row, term):
    """Whether what is chosen for a feeding row is known to be below the arguments that it feeds."""
    _, parts, _ = facts.terms[term]
    return all([facts.up[fed] >> part & 1 for (place, _), part in zip(row[2], parts) if place == feeding[1]])
