"""Names and steps, gathered from the things that have them."""


def all_names(holders, more=()):
    """The names of all holders, and more names: each once, ascending."""
    found = list(more)
    for holder in holders:
        found.extend(holder.names)
    return tuple(sorted(set(found)))


def all_steps(holders, more=()):
    """The steps of all holders, and more steps: each once, by name, then by ways."""
    steps = list(more)
    for holder in holders:
        steps.extend(holder.steps)
    found = {(step.name, step.ways): step for step in steps}
    return tuple([found[key] for key in sorted(found)])


def share_a_name(steps):
    """Whether one name stands more than once among these steps."""
    return len({step.name for step in steps}) < len(steps)
