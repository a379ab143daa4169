"""Right cuttings, the finest one, and runs that show that a cutting is wrong."""

from finestcuts.cuttings import Cutting
from finestcuts.errors import InvalidCutting
from finestcuts.marks import Points
from finestcuts.pieces import piece_count, piece_of_step
from finestcuts.runs import Run
from finestcuts.walks import Spare, nearest_walk, told_walk, values_of_call
from finestcuts.wrongs import (
    checks_outside,
    deeds_in,
    found_wrong,
    is_between,
    left_deeds,
    positions_of,
    retaken_deeds,
    step_of,
    steps_ahead,
)


def need_cutting(cutting):
    """Raises the error for what is no cutting."""
    if type(cutting) is not Cutting:
        raise InvalidCutting(cutting)


def wrong_cuts(cutting):
    """The ascending list of the wrong cuts of a cutting."""
    need_cutting(cutting)
    return found_wrong(cutting.system, cutting.cuts)


def is_right(cutting):
    """Whether a cutting is right."""
    return wrong_cuts(cutting) == []


def finest(system):
    """The finest right cutting of a system."""
    single = Cutting.single(system)
    return single - Cutting(system, wrong_cuts(single))


def choices_for(kind, deeds):
    """Choices with which a call does these deeds."""
    sides = {step_of(kind, deed): kind.spots[deed][1] for deed in deeds}
    return tuple([sides.get(step, 0) for step in kind.chooses])


def run_of_walk(cutting, walk, stop):
    """The run in which the other calls of a way come whole behind the piece from which it begins."""
    system = cutting.system
    (name, first, _), _, (_, last, _) = walk
    values, others = told_walk(system, walk)
    kind = system[name]
    calls = [(name, values, choices_for(kind, (first, last)), stop)]
    row = [0] * (piece_of_step(cutting.pieces(name), step_of(kind, first)) + 1)
    for other, given, entered, left in others:
        call = (other, given, choices_for(system[other], (entered, left)), None)
        row.extend([len(calls)] * piece_count(cutting, call))
        calls.append(call)
    row.extend([0] * (piece_count(cutting, calls[0]) - row.count(0)))
    return Run(cutting, tuple(calls), tuple(row))


def shorter_walk(one, other):
    """That of two walks that has fewer calls, each of them None if there is none."""
    if one is None or other is None:
        return other if one is None else one
    return other if len(other[1]) < len(one[1]) else one


def walk_over_cut(points, kind, positions):
    """A walk with the fewest calls from a deed of a kind to one behind a cut, or None."""
    best = None
    many = len(kind.deeds)
    for first in range(many):
        lasts = [
            last
            for last in range(first, many)
            if any([is_between(kind, position, first, last) for position in positions])
        ]
        best = shorter_walk(best, nearest_walk(points, kind, first, lasts))
    return best


def walk_to_retaken(points, kind, steps):
    """A walk from a deed of some steps to an add of these that is taken back, or None."""
    best = None
    for first in deeds_in(kind, steps):
        best = shorter_walk(best, nearest_walk(points, kind, first, retaken_deeds(kind, steps)))
    return best


def stopped_run(cutting, kind, steps):
    """The run of one call that does some steps, then stops and leaves a deed behind."""
    stop = checks_outside(kind, steps)[0]
    deed = left_deeds(kind, steps)[0]
    values = values_of_call(kind, {}, Spare(cutting.system.constants))
    call = (kind.name, values, choices_for(kind, (deed,)), stop)
    return Run(cutting, (call,), (0,) * piece_count(cutting, call))


def wrong_run(cutting):
    """A run that shows that a cutting is wrong, or None if it is right."""
    wrong = wrong_cuts(cutting)
    if not wrong:
        return None
    points = Points(cutting.system)
    best = None
    for kind in cutting.system.kinds:
        positions = positions_of(kind, wrong)
        if positions:
            best = shorter_walk(best, walk_over_cut(points, kind, positions))
    if best is not None:
        return run_of_walk(cutting, best, None)
    # No cut lies within a bad pair, so that a call has to stop.
    name, position = wrong[0]
    kind = cutting.system[name]
    steps = steps_ahead(position)
    if left_deeds(kind, steps):
        return stopped_run(cutting, kind, steps)
    return run_of_walk(cutting, walk_to_retaken(points, kind, steps), checks_outside(kind, steps)[0])
