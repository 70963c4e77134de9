"""The least values that terms may have, and whether a world can give them these."""


def levels_of(facts):
    """For each term the greatest number of others that are known to be one below the other below it."""
    levels = [0] * len(facts.terms)
    left = list(range(len(levels)))
    done = 0
    level = 0
    while left:
        now = [at for at in left if facts.below[at] & ~done == 0]
        for at in now:
            levels[at] = level
            done |= 1 << at
        left = [at for at in left if not done >> at & 1]
        level += 1
    return levels


def open_pair(facts, levels):
    """A pair (a, b) with a <= b by their levels, which is not known, and without which there would be no hurt.

    None if terms may have these values: no rule is hurt by them.
    """
    for needs, low, high in facts.rules:
        if levels[low] > levels[high] and all([levels[one] <= levels[other] for one, other in needs]):
            return _first_unknown(facts, needs)
    for loop in facts.loops:
        found = _open_pair_of_loop(facts, levels, loop)
        if found is not None:
            return found
    return None


def _first_unknown(facts, pairs):
    for low, high in pairs:
        if not facts.is_known(low, high):
            return low, high
    return None


def _open_pair_of_loop(facts, levels, loop):
    """The pair that hurts, if the loop ends lower than its ends where its steps give as much as they may."""
    reached = [levels[begin] for begin, _ in loop.sets]
    before = None
    while reached != before:
        before = list(reached)
        choice = [_least_above(facts, levels, reached, row) for row in loop.rows]
        for row, term in zip(loop.rows, choice):
            reached[row[1]] = max(reached[row[1]], levels[term])
    for place, (begin, end) in enumerate(loop.sets):
        if reached[place] < levels[end]:
            parts = [begin, *[term for row, term in zip(loop.rows, choice) if row[1] == place]]
            most = max(parts, key=lambda term: levels[term])
            needs = _needs_of_choice(facts, loop, choice)
            return _first_unknown(facts, [*needs, *[(part, most) for part in parts]])
    return None


def _least_above(facts, levels, reached, row):
    """The least present term that a row's step cannot be above, where its loop has reached so much."""
    step, _, arguments = row
    values = [levels[begin] if place is None else reached[place] for place, begin in arguments]
    found = None
    for term in facts.applied:
        word, parts, _ = facts.terms[term]
        if facts.known.is_below(step, word) and all([value <= levels[part] for value, part in zip(values, parts)]):
            if found is None or levels[term] < levels[found]:
                found = term
    return found


def _needs_of_choice(facts, loop, choice):
    """The pairs (a, b) for which rule 9 needs a <= b where these terms are chosen for the rows."""
    found = []
    for (_, _, arguments), term in zip(loop.rows, choice):
        _, parts, _ = facts.terms[term]
        for (place, begin), part in zip(arguments, parts):
            found.append((begin, part))
            found.extend([(fed, part) for row, fed in zip(loop.rows, choice) if row[1] == place])
    return found
