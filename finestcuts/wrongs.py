"""Which cuts are wrong, and for which of the reasons that the document lists."""

from finestcuts.marks import Points, loops_of


def positions_of(kind, cuts):
    """The list of the positions of the cuts of a kind, in the order of the cuts."""
    return [position for name, position in cuts if name == kind.name]


def step_of(kind, deed):
    """The step in which a deed stands."""
    return kind.spots[deed][0]


def deeds_ahead(kind, position):
    """The list of the deeds of the steps ahead of a cut."""
    return [deed for deed in range(len(kind.deeds)) if step_of(kind, deed) < position]


def adds_ahead(kind, position):
    """The list of the adds of the steps ahead of a cut."""
    return [deed for deed in deeds_ahead(kind, position) if kind.deeds[deed][0] == "add"]


def checks_behind(kind, position):
    """The list of the checks at a cut and behind it."""
    return [step for step in kind.checks if step >= position]


def left_deeds(kind, position):
    """The list of the deeds ahead of a cut that a call leaves behind if it stops behind the cut."""
    if not checks_behind(kind, position):
        return []
    words = ("read", "add") if kind.backs else ("read",)
    return [deed for deed in deeds_ahead(kind, position) if kind.deeds[deed][0] not in words]


def is_between(kind, position, first, last):
    """Whether a cut lies between the steps of two deeds, the step of the first one ahead."""
    return step_of(kind, first) < position <= step_of(kind, last)


def retaken_deeds(kind, position):
    """The list of the adds ahead of a cut that a call takes back if it stops behind the cut."""
    return adds_ahead(kind, position) if kind.backs and checks_behind(kind, position) else []


def is_wrong(kind, position, pairs):
    """Whether a cut is wrong, pairs being those of the deeds of its kind with ways between them."""
    if left_deeds(kind, position):
        return True
    if any([is_between(kind, position, first, last) for first, last in pairs]):
        return True
    # No way leads over the cut, so that those from or to a deed ahead of it have both ends there.
    retaken = retaken_deeds(kind, position)
    return any([first in retaken or last in retaken for first, last in pairs])


def found_wrong(system, cuts):
    """The ascending list of those of the cuts of a system that are wrong."""
    points = Points(system)
    found = []
    for kind in system.kinds:
        positions = positions_of(kind, cuts)
        pairs = loops_of(points, kind) if positions else []
        found.extend([(kind.name, position) for position in positions if is_wrong(kind, position, pairs)])
    return sorted(found)
