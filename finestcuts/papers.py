"""Papers, which show that a cutting is right."""

from finestcuts.errors import InvalidCutting
from finestcuts.finest import is_right, need_cutting
from finestcuts.marks import Points, bits, joined
from finestcuts.wrongs import deeds_in, is_between, left_deeds, positions_of, retaken_deeds, steps_ahead


def heads_of(points, cutting):
    """The list of the points for which a paper of a cutting has sets, in order."""
    system = cutting.system
    return [
        start
        for kind in system.kinds
        for deed in deeds_in(kind, steps_ahead(max(positions_of(kind, cutting.cuts), default=0)))
        for start in points.starts(kind.name, deed)
    ]


def barred(points, cutting, head):
    """The set of the points that a deed with a mark must not reach."""
    name, first, _ = head
    kind = cutting.system[name]
    lasts = []
    for position in positions_of(kind, cutting.cuts):
        lasts.extend([last for last in range(len(kind.deeds)) if is_between(kind, position, first, last)])
        steps = steps_ahead(position)
        if first in deeds_in(kind, steps):
            lasts.extend(retaken_deeds(kind, steps))
    return joined([points.ends(head, last) for last in lasts])


def leaves_nothing(cutting):
    """Whether no cut is wrong because of deeds that may not be there."""
    return not any([left_deeds(cutting.system[name], steps_ahead(position)) for name, position in cutting.cuts])


def right_paper(cutting):
    """The paper with the least sets of a right cutting."""
    if not is_right(cutting):
        raise InvalidCutting(cutting)
    points = Points(cutting.system)
    paper = []
    for head in heads_of(points, cutting):
        states, _ = points.reached(head)
        paper.append((*head, tuple([points.points[at] for at in bits(states)])))
    return tuple(paper)


def numbers_of(points, value):
    """The ascending list of the numbers of the points in any value that is a tuple of such in order, or None."""
    if type(value) is not tuple:
        return None
    numbers = [points.number_of(state) for state in value]
    if None in numbers or not all([one < other for one, other in zip(numbers, numbers[1:])]):
        return None
    return numbers


def is_closed(points, cutting, head, states):
    """Whether a set of points has all that it must have, only what it may have, and reaches nothing barred."""
    allowed = points.allowed(cutting.system[head[0]]) & points.named(head)
    further = points.following(states)
    needed = (points.entered(head) | further) & allowed
    if states & ~allowed or needed & ~states:
        return False
    return further & barred(points, cutting, head) == 0


def is_entry(points, cutting, head, value):
    """Whether any value is the part of a paper for a deed with a mark."""
    if type(value) is not tuple or len(value) != 4:
        return False
    if points.number_of(value[:3]) != points.number_of(head):
        return False
    numbers = numbers_of(points, value[3])
    if numbers is None:
        return False
    return is_closed(points, cutting, head, joined([1 << at for at in numbers]))


def is_right_paper(cutting, value):
    """Whether any value is a paper of a cutting."""
    need_cutting(cutting)
    if type(value) is not tuple or not leaves_nothing(cutting):
        return False
    points = Points(cutting.system)
    heads = heads_of(points, cutting)
    if len(value) != len(heads):
        return False
    return all([is_entry(points, cutting, head, entry) for head, entry in zip(heads, value)])
