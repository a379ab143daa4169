"""How many rows some calls have, how many of these are without an order, and with which stores they end."""

from finestcuts.errors import InvalidStore, TooMany
from finestcuts.plans import Plan
from finestcuts.stores import is_store, without_zeros

MOST_ROWS = 200000


def need_few(plan):
    """Raises the error for more rows than may be gone through."""
    if plan.row_count(plan.counts) > MOST_ROWS:
        raise TooMany(MOST_ROWS)


def arrows_to(plan, met, left, number):
    """The set of the calls, as bits, from which arrows lead to the next piece of a call."""
    firsts = met[(number, plan.pieces_done(left, number))]
    return sum(
        [1 << other for other, first in enumerate(firsts) if other != number and plan.pieces_done(left, other) > first]
    )


def ways_after(plan, met, state, number):
    """Which calls can be reached over arrows from each call, behind the next piece of a call; None if there is a ring.

    Nothing is told of calls that are over: no more arrows lead to them, so that no ring can come of theirs.
    """
    left, ways = state
    ahead = arrows_to(plan, met, left, number)
    if ways[number] & ahead != 0:
        return None
    behind = ways[number] | 1 << number
    further = [way | behind if (1 << at | way) & ahead != 0 else way for at, way in enumerate(ways)]
    rest = plan.one_less(left, number)
    return tuple([way if rest[at] > 0 else 0 for at, way in enumerate(further)])


def next_states(plan, met, state):
    """The list of the states behind each next piece, and how many rows go on behind pieces that make a ring."""
    left, _ = state
    found = []
    ringed = 0
    for number in plan.coming(left):
        rest = plan.one_less(left, number)
        ways = ways_after(plan, met, state, number)
        if ways is None:
            ringed = ringed + plan.row_count(rest)
        else:
            found.append((rest, ways))
    return (found, ringed)


def ringed_rows(plan, met, layer):
    """How many of the rows whose beginnings are these states get a ring by their next piece, and the states behind."""
    further = {}
    ringed = 0
    for state, many in layer.items():
        states, more = next_states(plan, met, state)
        ringed = ringed + many * more
        for after in states:
            further[after] = further.get(after, 0) + many
    return (ringed, further)


def share(cutting, calls):
    """The pair of the number of the rows that are without an order, and that of all rows of these calls."""
    plan = Plan(cutting, calls)
    need_few(plan)
    met = plan.all_met()
    layer = {(plan.counts, (0,) * len(calls)): 1}
    found = 0
    for _ in range(sum(plan.counts)):
        ringed, layer = ringed_rows(plan, met, layer)
        found = found + ringed
    return (found, plan.row_count(plan.counts))


def states_after(plan, layer):
    """The dict of the states behind each next piece of states to how many beginnings lead to each."""
    further = {}
    for state, many in layer.items():
        for number in plan.coming(state[0]):
            after = plan.after_piece(state, number)
            further[after] = further.get(after, 0) + many
    return further


def stores(cutting, calls, store):
    """The dict from the end stores of all rows of these calls to how many rows end with each."""
    plan = Plan(cutting, calls)
    if not is_store(store):
        raise InvalidStore(store)
    need_few(plan)
    nothing = ((),) * len(calls)
    items = tuple(sorted(list(without_zeros(store).items())))
    layer = {(plan.counts, items, nothing, nothing): 1}
    for _ in range(sum(plan.counts)):
        layer = states_after(plan, layer)
    return {items: many for (_, items, _, _), many in layer.items()}
