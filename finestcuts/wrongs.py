"""Which cuts are wrong, and for which of the reasons that the document lists."""

from finestcuts.marks import Points, loops_of


def positions_of(kind, cuts):
    """The list of the positions of the cuts of a kind, in the order of the cuts."""
    return [position for name, position in cuts if name == kind.name]


def step_of(kind, deed):
    """The step in which a deed stands."""
    return kind.spots[deed][0]


def steps_ahead(position):
    """The tuple of the steps ahead of a cut."""
    return tuple(range(position))


def deeds_in(kind, steps):
    """The list of the deeds of some steps of a kind."""
    return [deed for deed in range(len(kind.deeds)) if step_of(kind, deed) in steps]


def checks_outside(kind, steps):
    """The list of the checks that are not among some steps of a kind."""
    return [step for step in kind.checks if step not in steps]


def left_deeds(kind, steps):
    """The list of the deeds that a call leaves behind if it does these steps first and then stops."""
    if not checks_outside(kind, steps):
        return []
    words = ("read", "add") if kind.backs else ("read",)
    return [deed for deed in deeds_in(kind, steps) if kind.deeds[deed][0] not in words]


def retaken_deeds(kind, steps):
    """The list of the adds that a call takes back if it does these steps first and then stops."""
    if not kind.backs or not checks_outside(kind, steps):
        return []
    return [deed for deed in deeds_in(kind, steps) if kind.deeds[deed][0] == "add"]


def is_between(kind, position, first, last):
    """Whether a cut lies between the steps of two deeds, the step of the first one ahead."""
    return step_of(kind, first) < position <= step_of(kind, last)


def is_free(kind, steps, pairs):
    """Whether some steps can be cut off, pairs being those of the deeds of their kind with ways between them."""
    if left_deeds(kind, steps):
        return False
    inside = deeds_in(kind, steps)
    if any([(first in inside) != (last in inside) for first, last in pairs]):
        return False
    # No way leads out of these steps, so that those from or to a deed of them have both ends there.
    retaken = retaken_deeds(kind, steps)
    return not any([first in retaken or last in retaken for first, last in pairs])


def found_wrong(system, cuts):
    """The ascending list of those of the cuts of a system that are wrong."""
    points = Points(system)
    found = []
    for kind in system.kinds:
        positions = positions_of(kind, cuts)
        pairs = loops_of(points, kind) if positions else []
        wrong = [position for position in positions if not is_free(kind, steps_ahead(position), pairs)]
        found.extend([(kind.name, position) for position in wrong])
    return sorted(found)
