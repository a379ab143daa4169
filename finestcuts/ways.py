"""Ways from deeds to deeds of the same call, and bad pairs of steps."""

from finestcuts.calls import are_values, item_of
from finestcuts.deeds import are_clashing
from finestcuts.errors import InvalidNumber, InvalidSystem, UnknownKind
from finestcuts.forms import is_number, is_pair
from finestcuts.marks import Points, are_of_one_call, loops_of
from finestcuts.systems import System
from finestcuts.walks import nearest_walk, told_walk

MOST_CALLS = 40


def need_kind(system, name):
    """Raises the errors for what is no system, and for what is no name of a kind of it."""
    if type(system) is not System:
        raise InvalidSystem(system)
    if name not in system:
        raise UnknownKind(name)


def need_deeds(system, name, first, last):
    """Raises the errors for wrong arguments that tell two deeds of a kind."""
    need_kind(system, name)
    for deed in (first, last):
        if not is_number(deed, len(system[name].deeds)):
            raise InvalidNumber(deed)


def way(system, name, first, last):
    """A way with the fewest calls from one deed of a kind to another one, or None."""
    need_deeds(system, name, first, last)
    walk = nearest_walk(Points(system), system[name], first, (last,))
    return None if walk is None else told_walk(system, walk)


def is_between(system, kind, value):
    """Whether any value is a call as a way of a kind can have it."""
    if type(value) is not tuple or len(value) != 4:
        return False
    name, values, entered, left = value
    if name not in system:
        return False
    other = system[name]
    if kind.alone and other.alone or not are_values(other, values):
        return False
    if not all([is_number(deed, len(other.deeds)) for deed in (entered, left)]):
        return False
    return are_of_one_call(other, entered, left)


def placed_deed(kind, values, deed):
    """A deed of a call with its item."""
    act = kind.deeds[deed]
    return (act, item_of(act[1], dict(zip(kind.parameters, values))))


def do_meet(one, other):
    """Whether two deeds with their items do not commute."""
    return one[1] == other[1] and are_clashing(one[0], other[0])


def is_way(system, name, first, last, value):
    """Whether any value is a way with at most 40 calls from one deed of a kind to another one."""
    need_deeds(system, name, first, last)
    kind = system[name]
    if not is_pair(value) or not are_of_one_call(kind, first, last):
        return False
    values, calls = value
    if not are_values(kind, values) or type(calls) is not tuple or not 1 <= len(calls) <= MOST_CALLS:
        return False
    if not all([is_between(system, kind, call) for call in calls]):
        return False
    lefts = [placed_deed(kind, values, first)]
    lefts.extend([placed_deed(system[other], given, left) for other, given, _, left in calls])
    entries = [placed_deed(system[other], given, entered) for other, given, entered, _ in calls]
    entries.append(placed_deed(kind, values, last))
    return all([do_meet(left, entered) for left, entered in zip(lefts, entries)])


def loops(system, name):
    """The ascending list of the pairs of deeds, the first one at most the other, between which there is a way."""
    need_kind(system, name)
    return loops_of(Points(system), system[name])


def bad_pairs(system, name):
    """The ascending list of the bad pairs of a kind."""
    pairs = loops(system, name)
    spots = system[name].spots
    steps = [(spots[first][0], spots[last][0]) for first, last in pairs]
    return sorted(set([(first, last) for first, last in steps if first < last]))
