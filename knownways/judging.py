"""What a claim asks of the ends of its runs."""


def goals_of(claim, refused, entered):
    """What the claim asks where the runs have ended with these words (None: not refused).

    None: the claim fails, whatever the ends hold. Else the triples (low, high, name) of
    two runs: the name's value at the end of the one must not be above that of the other.
    """
    if claim.kind == "refuses":
        return _goals_of_refuses(claim, refused[0])
    if claim.kind == "taken":
        return None if (claim.at, claim.side) in entered else []
    if claim.kind == "alike":
        return _goals_of_alike(claim, refused)
    if claim.kind == "always" or any([word is not None for word in refused]):
        return []
    if claim.kind == "above":
        return [(0, 1, claim.name)]
    return [(0, 1, claim.out)] if claim.kind == "rises" else [(1, 0, claim.out)]


def _goals_of_refuses(claim, word):
    if word is None:
        return []
    return None if not claim.words or word in claim.words else []


def _goals_of_alike(claim, refused):
    if refused[0] != refused[1]:
        return None
    if refused[0] is not None:
        return []
    return [(low, 1 - low, name) for name in claim.wanted for low in (0, 1)]
