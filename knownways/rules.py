"""Rules 2 to 8: which facts follow of applied terms, from which other ones.

A rule is a triple: the pairs (a, b) for which a <= b is needed, and then low and high of
the fact low <= high that follows.
"""


def rules_of(facts, at):
    """The rules of one applied term by itself."""
    word, parts, _ = facts.terms[at]
    found = []
    if facts.known.has("up", word):
        found.append(((), parts[0], at))
    if facts.known.has("down", word):
        found.append(((), at, parts[0]))
    if facts.known.has("mean", word):
        for low, high in (parts, (parts[1], parts[0])):
            found.append((((low, high),), low, at))
            found.append((((low, high),), at, high))
    return found


def rules_beside(facts, low, high):
    """The rules by which low <= high follows of two applied terms, and those of back traits."""
    known = facts.known
    word, parts, ways = facts.terms[low]
    other, others, _ = facts.terms[high]
    found = []
    if known.is_below(word, other):
        found.append((_needs(ways, parts, others), low, high))
    if word == other and known.has("alike", word):
        found.append((_needs(ways, (parts[1], parts[0]), others), low, high))
    if word == other and known.has("settled", word):
        found.append((((parts[0], high),), low, high))
        found.append((((low, others[0]),), low, high))
    if known.uppers.get(word) == other:
        found.append((((low, others[0]),), parts[0], high))
        found.append((((parts[0], high),), low, others[0]))
    return found


def _needs(ways, parts, others):
    """What must be known of the arguments, so that a step is not above for the others."""
    found = []
    for way, part, other in zip(ways, parts, others):
        if way != "-" and part != other:
            found.append((part, other))
        if way != "+" and part != other:
            found.append((other, part))
    return tuple(found)
