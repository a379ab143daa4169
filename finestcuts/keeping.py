"""Which steps of a kind must keep their order, and chains of pieces that keep it."""

from finestcuts.deeds import are_clashing
from finestcuts.forms import is_number
from finestcuts.steps import names_read, sides_of


def deeds_of_step(step):
    """The list of all deeds of a step, of a choose those of both tuples."""
    return [deed for _, deeds in sides_of(step) for deed in deeds]


def names_in_sums(deeds):
    """The names in the sums of deeds, in order."""
    return tuple([name for word, _, last in deeds if word != "read" for _, name in last[2]])


def can_be_same(kind, one, other):
    """Whether two indices of places of a kind can have the same value in one call."""
    if one == other:
        return True
    if type(one) is int and type(other) is int:
        return False
    return (one, other) not in kind.unlike and (other, one) not in kind.unlike


def can_meet(kind, one, other):
    """Whether two deeds clash by kind and their items can be the same in one call."""
    return are_clashing(one, other) and can_be_same(kind, one[1][1], other[1][1])


def have_common(one, other):
    """Whether a name stands in both tuples."""
    return any([name in other for name in one])


def share_local(deeds, others):
    """Whether one of two steps, given as their deeds, reads a local that the other one names or reads."""
    reads, more_reads = names_read(deeds), names_read(others)
    return (
        have_common(reads, names_in_sums(others))
        or have_common(names_in_sums(deeds), more_reads)
        or have_common(reads, more_reads)
    )


def is_watched(step, other):
    """Whether a step is a check, and the other one is a check or has a read."""
    return step[0] == "check" and (other[0] == "check" or len(names_read(deeds_of_step(other))) > 0)


def must_keep(kind, first, last):
    """Whether two steps of a kind must keep their order."""
    step, other = kind.steps[first], kind.steps[last]
    deeds, others = deeds_of_step(step), deeds_of_step(other)
    if any([can_meet(kind, deed, act) for deed in deeds for act in others]):
        return True
    return share_local(deeds, others) or is_watched(step, other) or is_watched(other, step)


def kept_pairs(kind):
    """The ascending list of the pairs of steps of a kind that must keep their order."""
    many = len(kind)
    return [
        (first, last) for first in range(many) for last in range(first + 1, many) if must_keep(kind, first, last)
    ]


def is_piece(value, many):
    """Whether any value is a nonempty ascending tuple of numbers below this one."""
    if type(value) is not tuple or not value or not all([is_number(step, many) for step in value]):
        return False
    return all([one < other for one, other in zip(value, value[1:])])


def is_chain_of(kind, value):
    """Whether any value is a chain of a kind."""
    many = len(kind)
    if type(value) is not tuple or not all([is_piece(piece, many) for piece in value]):
        return False
    places = [(step, place) for place, piece in enumerate(value) for step in piece]
    if sorted([step for step, _ in places]) != list(range(many)):
        return False
    place_of = dict(places)
    return all([place_of[first] <= place_of[last] for first, last in kept_pairs(kind)])
