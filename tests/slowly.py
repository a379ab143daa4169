"""What the document says of right cuttings and papers, written down a second time, plainly, for the tests."""

import itertools

import naive
from finestcuts.cuttings import Cutting
from finestcuts.kinds import Kind
from finestcuts.systems import System


def ways_of(system, domain):
    """The dict from names of kinds to the pairs of deeds between which there is a way, found over values."""
    return {name: set(naive.fewest(system, name, domain)) for name in system.names}


def stays_behind(kind, position):
    """Whether a call that stops behind a cut leaves a deed ahead of it behind."""
    words = ("read", "add") if kind.backs else ("read",)
    for (step, _), deed in zip(kind.spots, kind.deeds, strict=True):
        if step < position and deed[0] not in words:
            return any(check >= position for check in kind.checks)
    return False


def is_within_bad_pair(kind, position, pairs):
    """Whether a cut lies within a bad pair."""
    return any(kind.spots[first][0] < position <= kind.spots[last][0] for first, last in pairs)


def is_met_when_taken_back(kind, position, pairs):
    """Whether there is a way from a deed ahead of a cut to an add ahead of it that may be taken back."""
    if not kind.backs or not any(check >= position for check in kind.checks):
        return False
    ahead = {deed for deed, (step, _) in enumerate(kind.spots) if step < position}
    return any(first in ahead and last in ahead and kind.deeds[last][0] == "add" for first, last in pairs)


def wrong_cuts_of(cutting, ways):
    """The wrong cuts of a cutting, ascending."""
    found = []
    for name, position in cutting.cuts:
        kind, pairs = naive.kind_of(cutting.system, name), ways[name]
        told = (stays_behind, is_within_bad_pair, is_met_when_taken_back)
        if told[0](kind, position) or any(reason(kind, position, pairs) for reason in told[1:]):
            found.append((name, position))
    return found


def stops_of(kind):
    return (None, *[at for at, step in enumerate(kind.steps) if step[0] == "check"])


def all_calls(system, domain):
    """All calls with values of the domain, also those that stop."""
    for name, values, choices, _ in naive.whole_calls(system, domain):
        for stop in stops_of(naive.kind_of(system, name)):
            yield (name, values, choices, stop)


def leaves_behind(cutting, calls, row):
    """Whether a stopped call of a row has no piece left and has performed a deed that may not be there."""
    for number, call in enumerate(calls):
        pieces = naive.pieces_of(cutting, call)
        kind = naive.kind_of(cutting.system, call[0])
        if call[3] is None or row.count(number) < len(pieces):
            continue
        words = ("read", "add") if kind.backs else ("read",)
        if any(deed[0] not in words for word, deeds in pieces if word == "ahead" for deed, _ in deeds):
            return True
    return False


def bad_runs(cutting, many, calls):
    """All timely runs of so many of the calls that have a ring or leave something behind."""
    for chosen in itertools.combinations_with_replacement(calls, many):
        met = naive.meetings(cutting, chosen)
        for row in naive.rows_of(cutting, chosen) if any(met.values()) or many == 1 else ():
            if naive.has_ring(naive.arrows_in(row, met), many) or leaves_behind(cutting, chosen, row):
                yield (chosen, row)


def marks_of(system, kind, deed):
    """The marks that a deed can have, in the order of papers."""
    index = kind.deeds[deed][1][1]
    if type(index) is int:
        return [index]
    return [mark for mark in (*system.constants, "first", "other") if (index, mark) not in kind.unlike]


def states_from(system, act, mark, is_alone):
    """All states that are entered from a deed with a mark."""
    return {
        (kind.name, deed, mark)
        for kind in system.kinds
        for deed, other in enumerate(kind.deeds)
        if not (is_alone and kind.alone)
        and naive.do_clash_by_kind(act, other)
        and mark in marks_of(system, kind, deed)
    }


def can_have_both(kind, one, mark, other, other_mark):
    """Whether one call can do two deeds with these marks."""
    if not naive.are_of_one_call(kind, one, other):
        return False
    first, second = kind.deeds[one][1][1], kind.deeds[other][1][1]
    if first == second:
        return mark == other_mark
    if (first, second) in kind.unlike or (second, first) in kind.unlike:
        return mark != other_mark or mark == "other"
    return True


def lefts_of(system, state, without):
    """All deeds with marks with which a call that is entered with a state can be left."""
    name, entered, mark = state
    kind = naive.kind_of(system, name)
    return [
        (kind.deeds[deed], left)
        for deed in range(len(kind.deeds))
        for left in marks_of(system, kind, deed)
        if left != without and can_have_both(kind, entered, mark, deed, left)
    ]


def least_set(system, kind, deed, mark):
    """All states that are reached from a deed with a mark, and all deeds with marks that they are left with."""
    unused = None if mark == "first" else "first"
    found, fresh, lefts = set(), states_from(system, kind.deeds[deed], mark, kind.alone), []
    while fresh:
        found |= fresh
        more = [left for state in fresh for left in lefts_of(system, state, unused)]
        lefts.extend(more)
        fresh = {state for act, left in more for state in states_from(system, act, left, kind.alone)} - found
    return found, lefts


def place_of(state):
    """What papers order states by."""
    name, deed, mark = state
    return (name, deed, type(mark) is str, mark)


def least_paper(cutting):
    """The paper with the least sets of a right cutting."""
    system, paper = cutting.system, []
    for kind in system.kinds:
        ends = [position for name, position in cutting.cuts if name == kind.name]
        for deed, (step, _) in enumerate(kind.spots):
            for mark in marks_of(system, kind, deed) if any(position > step for position in ends) else ():
                if mark != "other":
                    states, _ = least_set(system, kind, deed, mark)
                    paper.append((kind.name, deed, mark, tuple(sorted(states, key=place_of))))
    return tuple(paper)


def restricted(cutting, names):
    """A cutting without some kinds."""
    system = System(tuple(kind for kind in cutting.system.kinds if kind.name not in names))
    return Cutting(system, [cut for cut in cutting.cuts if cut[0] not in names])


def promised(cutting, pairs):
    """A cutting whose kinds have more pairs of what is unlike."""
    kinds = []
    for kind in cutting.system.kinds:
        more = [pair[1:] for pair in pairs if pair[0] == kind.name]
        unlike = tuple(dict.fromkeys((*kind.unlike, *more)))
        kinds.append(Kind(kind.name, kind.parameters, kind.steps, unlike, kind.backs, kind.alone, 100))
    return Cutting(System(tuple(kinds), 100), cutting.cuts)
