"""Arrows, orders and rings of runs, and the exchanges that put runs in order."""

from finestcuts.deeds import are_clashing
from finestcuts.errors import InvalidNumber, InvalidRun, NotInOrder
from finestcuts.forms import is_number
from finestcuts.runs import Run, pieces_in_row


def need_run(run):
    """Raises the error for what is no run."""
    if type(run) is not Run:
        raise InvalidRun(run)


def uses_of_items(run):
    """The dict from items to the list of what is done with each, in the order of the row: call and deed."""
    uses = {}
    for number, (_, deeds) in zip(run.row, pieces_in_row(run)):
        for deed, item in deeds:
            uses.setdefault(item, []).append((number, deed))
    return uses


def do_commute(one, other):
    """Whether two pieces of different calls commute, given as the deeds that they perform."""
    return not any(
        [item == place and are_clashing(deed, act) for deed, item in one for act, place in other]
    )


def arrows(run):
    """The ascending list of all arrows."""
    need_run(run)
    found = {}
    for uses in uses_of_items(run).values():
        for at, (number, deed) in enumerate(uses):
            for later, act in uses[at + 1 :]:
                if later != number and are_clashing(deed, act):
                    found[(number, later)] = True
    return sorted(found)


def order_of(many, links):
    """The first order of so many calls with these arrows, or None."""
    placed = []
    while len(placed) < many:
        held = {later: True for _, later in links}
        able = [number for number in range(many) if number not in placed and number not in held]
        if not able:
            return None
        placed.append(able[0])
        links = [link for link in links if link[0] != able[0]]
    return tuple(placed)


def order(run):
    """The first order, or None if there is none."""
    links = arrows(run)
    return order_of(len(run.calls), links)


def is_order(run, value):
    """Whether any value is an order."""
    links = arrows(run)
    many = len(run.calls)
    if type(value) is not tuple or not all([is_number(number, many) for number in value]):
        return False
    if sorted(value) != list(range(many)):
        return False
    return all([value.index(number) < value.index(later) for number, later in links])


def exchanges(run):
    """The list of exchanges, one after another, that put a run in the order that order returns."""
    placed = order(run)
    if placed is None:
        raise NotInOrder()
    ranks = [placed.index(number) for number in run.row]
    found = []
    for end in range(1, len(ranks)):
        at = end
        while at > 0 and ranks[at - 1] > ranks[at]:
            at = at - 1
            ranks[at], ranks[at + 1] = ranks[at + 1], ranks[at]
            found.append(at)
    return found


def is_exchange(run, position):
    """Whether any value is an exchange."""
    if not is_number(position, len(run.row) - 1) or run.row[position] == run.row[position + 1]:
        return False
    return do_commute(run.performed(position), run.performed(position + 1))


def exchanged(run, position):
    """The run after an exchange."""
    need_run(run)
    if not is_exchange(run, position):
        raise InvalidNumber(position)
    row = run.row
    swapped = (row[position + 1], row[position])
    return Run(run.cutting, run.calls, row[:position] + swapped + row[position + 2 :])


def longer_paths(paths, least, many, links, seen):
    """The list of the paths, each with one call more that is not among those seen; marks these calls as seen."""
    # The paths come in list order, so that the first one to each call is the first of the shortest.
    longer = []
    for path in paths:
        for number in range(least, many):
            if (path[-1], number) in links and number not in seen:
                seen[number] = True
                longer.append((*path, number))
    return longer


def ring_from(start, many, links):
    """Of the shortest rings whose first and least call is this one the first, or None."""
    paths = [(start,)]
    seen = {start: True}
    while paths:
        closed = [path for path in paths if (path[-1], start) in links]
        if closed:
            return closed[0]
        paths = longer_paths(paths, start + 1, many, links, seen)
    return None


def ring(run):
    """Of the shortest rings that begin with their least call the first one, or None if there is none."""
    links = {link: True for link in arrows(run)}
    many = len(run.calls)
    found = [ring_from(start, many, links) for start in range(many)]
    rings = sorted([(len(path), path) for path in found if path is not None])
    return rings[0][1] if rings else None


def is_ring(run, value):
    """Whether any value is a ring."""
    links = arrows(run)
    many = len(run.calls)
    if type(value) is not tuple or not all([is_number(number, many) for number in value]):
        return False
    if len(value) < 2 or len(set(value)) < len(value):
        return False
    return all([link in links for link in zip(value, (*value[1:], value[0]))])
