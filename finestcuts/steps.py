"""Steps: their forms, the deeds in them, and whether they fit the parameters of a kind."""

from finestcuts.deeds import is_deed
from finestcuts.forms import is_headed, is_name


def is_check(value):
    """Whether any value has the form of a check."""
    return is_headed(value, ("check",), 2) and is_name(value[1])


def is_side(value):
    """Whether any value can be a tuple of a choose."""
    if type(value) is not tuple or len(value) > 3:
        return False
    return all([is_deed(deed) for deed in value])


def is_choose(value):
    """Whether any value has the form of a choose."""
    return is_headed(value, ("choose",), 3) and is_side(value[1]) and is_side(value[2])


def is_step(value):
    """Whether any value has the form of a step, with any names."""
    return is_deed(value) or is_check(value) or is_choose(value)


def are_steps(value):
    """Whether any value has the form of the steps of a kind, with any names."""
    if type(value) is not tuple or not 1 <= len(value) <= 8:
        return False
    return all([is_step(step) for step in value]) and len(placed_deeds(value)) <= 12


def sides_of(step):
    """The tuples of deeds of a step, each behind None, or 0 or 1 for its tuple of a choose."""
    if step[0] == "check":
        return []
    if step[0] == "choose":
        return [(0, step[1]), (1, step[2])]
    return [(None, (step,))]


def placed_deeds(steps):
    """All deeds of the steps, in order, each behind its spot: the step and its side."""
    return [
        ((at, side), deed)
        for at, step in enumerate(steps)
        for side, deeds in sides_of(step)
        for deed in deeds
    ]


def names_read(deeds):
    """The names that deeds read into, in order."""
    return tuple([deed[2] for deed in deeds if deed[0] == "read"])


def does_deed_fit(deed, parameters, known):
    """Whether a deed names only what it may, known being the names that its sum may have."""
    word, (_, index), last = deed
    if type(index) is str and index not in parameters:
        return False
    if word == "read":
        return last not in parameters
    return all([name in known for _, name in last[2]])


def does_side_fit(deeds, parameters, known):
    """Whether deeds done one after another fit, known being the names known ahead of them."""
    return all(
        [
            does_deed_fit(deed, parameters, known + names_read(deeds[:at]))
            for at, deed in enumerate(deeds)
        ]
    )


def do_steps_fit(steps, parameters):
    """Whether steps of the right form fit the parameters and each other."""
    known = parameters
    for step in steps:
        sides = sides_of(step)
        if not all([does_side_fit(deeds, parameters, known) for _, deeds in sides]):
            return False
        # Which tuple of a choose was done is not known behind it: a local of either will do.
        for _, deeds in sides:
            known = known + names_read(deeds)
    return True
