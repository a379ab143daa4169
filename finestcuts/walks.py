"""Ways with the fewest calls: found over points, and told with values of the parameters.

A walk is a tuple of the point at which a way begins, the list of the pairs of points at which its
calls are entered and left, and the point to which it comes back.
"""

from finestcuts.marks import FIRST, OTHER, bits, index_of, joined


class Spare:
    """Tells integers that are not among the constants, each of them once."""

    def __init__(self, constants):
        self.constants = constants
        self.last = 0

    def take(self):
        """An integer that was not told so far."""
        self.last += 1
        while self.last in self.constants:
            self.last += 1
        return self.last


def layers_to(points, start, goal):
    """The points at which first, second .. calls are entered, up to calls from which a goal follows, or None."""
    allowed = points.allowed(points.system[start[0]]) & points.named(start)
    fresh = points.entered(start) & allowed
    found = fresh
    layers = []
    while fresh:
        layers.append(fresh)
        further = points.following(fresh)
        if further & goal:
            return layers
        fresh = further & allowed & ~found
        found = found | fresh
    return None


def least_member(points, members):
    """The first point of a set."""
    return points.points[bits(members)[0]]


def step_to(points, members, goal):
    """One of the points of a set, where calls from it can be left ahead of a goal, and the goal that is entered."""
    at = [at for at in bits(members) if points.nexts[at] & goal][0]
    entered = points.points[at]
    lefts = [points.points[place] for place in bits(points.left_from(entered, points.of_deed))]
    left = [point for point in lefts if points.entered(point) & goal][0]
    return (entered, left, least_member(points, points.entered(left) & goal))


def walk_through(points, start, layers, goal):
    """A walk through these layers of points to a goal."""
    pairs = []
    end = None
    for members in layers[::-1]:
        entered, left, reached = step_to(points, members, goal)
        pairs.append((entered, left))
        end = reached if end is None else end
        goal = 1 << points.numbers[entered]
    return (start, pairs[::-1], end)


def nearest_walk(points, kind, first, lasts):
    """A walk with the fewest calls from a deed of a kind to one of several, or None."""
    best = None
    for start in points.starts(kind.name, first):
        goal = joined([points.ends(start, last) for last in lasts])
        layers = layers_to(points, start, goal)
        if layers is not None and (best is None or len(layers) < len(best[1])):
            best = (start, layers, goal)
    if best is None:
        return None
    start, layers, goal = best
    return walk_through(points, start, layers, goal)


def values_of_call(kind, told, spare):
    """Values for the parameters of a kind: those that are told, and different ones for the others."""
    return tuple([told[name] if name in told else spare.take() for name in kind.parameters])


def value_marked(mark, begun, spare):
    """A value that a mark stands for, begun being the one at which the way begins."""
    if mark == OTHER:
        return spare.take()
    return begun if mark == FIRST else mark


def told_walk(system, walk):
    """The way of a walk: the values of the call that it leaves and comes back to, and the other calls."""
    (name, first, mark), pairs, (_, last, _) = walk
    spare = Spare(system.constants)
    begun = spare.take() if mark == FIRST else mark
    value = begun
    calls = []
    for (other, entered, _), (_, left, behind) in pairs:
        kind = system[other]
        told = {index_of(kind, entered): value}
        if index_of(kind, left) not in told:
            value = value_marked(behind, begun, spare)
            told[index_of(kind, left)] = value
        calls.append((other, values_of_call(kind, told, spare), entered, left))
    kind = system[name]
    told = {index_of(kind, first): begun, index_of(kind, last): value}
    return (values_of_call(kind, told, spare), tuple(calls))
