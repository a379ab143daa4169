"""Points: the deeds of a system with the marks that stand for the values of their indices.

A point is a tuple of the name of a kind, the index of a deed and a mark: an integer, "first" for
the value at which a way begins, or "other" for any other value. A call that is entered or left at
a deed is at such a point; which other values its parameters have makes no difference.

A set of points is kept as an integer with a bit for each of them: hundreds of points are joined
thousands of times.
"""

from finestcuts.deeds import are_clashing

FIRST = "first"
OTHER = "other"


def bits(members):
    """The ascending list of the numbers of the members of a set of points."""
    digits = f"{members:b}"
    return [at for at, digit in enumerate(digits[::-1]) if digit == "1"]


def index_of(kind, deed):
    """The index of the place of a deed of a kind, which is told by its number."""
    return kind.deeds[deed][1][1]


def marks_of(kind, deed, constants):
    """The list of the marks that a deed can have: integers, ascending, ahead of the others."""
    index = index_of(kind, deed)
    if type(index) is int:
        return [index]
    return [*[value for value in constants if (index, value) not in kind.unlike], FIRST, OTHER]


def are_of_one_call(kind, one, other):
    """Whether one call can do both deeds: they are not of both tuples of a choose."""
    return kind.spots[one][0] != kind.spots[other][0] or kind.spots[one] == kind.spots[other]


def are_unlike(kind, one, other):
    """Whether two indices of a kind must have different values, as a pair of it says."""
    return (one, other) in kind.unlike or (other, one) in kind.unlike


def all_points(system):
    """The list of all points, by names, deeds and marks."""
    return [
        (name, deed, mark)
        for name in sorted(system.names)
        for deed in range(len(system[name].deeds))
        for mark in marks_of(system[name], deed, system.constants)
    ]


def joined(sets):
    """The set of the members of all sets of a list."""
    found = 0
    for members in sets:
        found = found | members
    return found


class Points:
    """The points of a system, and how calls lead from one to another."""

    def __init__(self, system):
        self.system = system
        self.points = all_points(system)
        self.numbers = {point: at for at, point in enumerate(self.points)}
        self.of_mark = {mark: 0 for mark in (*system.constants, FIRST, OTHER)}
        self.of_deed = {(name, deed): 0 for name, deed, _ in self.points}
        for at, (name, deed, mark) in enumerate(self.points):
            self.of_mark[mark] = self.of_mark[mark] | 1 << at
            self.of_deed[(name, deed)] = self.of_deed[(name, deed)] | 1 << at
        self.of_alone = joined([self.of_deed[key] for key in self.of_deed if system[key[0]].alone])
        self.clashing = {key: self.clashes_of(key) for key in self.of_deed}
        self.around = {key: self.clashing[key] & self.marked_like(key) for key in self.of_deed}
        self.nexts = [self.left_from(point, self.around) for point in self.points]
        self.kept_groups = {}

    def number_of(self, value):
        """The number of any value that is a point, otherwise None."""
        if type(value) is not tuple or len(value) != 3:
            return None
        name, deed, mark = value
        if type(name) is not str or type(deed) is not int or type(mark) not in (int, str):
            return None
        return self.numbers.get(value)

    def deed(self, key):
        """The deed with this name of a kind and this number."""
        name, deed = key
        return self.system[name].deeds[deed]

    def clashes_of(self, key):
        """The points of the deeds that clash with a deed by kind."""
        deed = self.deed(key)
        return joined([self.of_deed[other] for other in self.of_deed if are_clashing(deed, self.deed(other))])

    def marked_like(self, key):
        """The points with marks that a deed can have."""
        name, deed = key
        marks = marks_of(self.system[name], deed, self.system.constants)
        return joined([self.of_mark[mark] for mark in marks])

    def entered(self, point):
        """The points at which calls are entered from a deed with a mark."""
        name, deed, mark = point
        return self.clashing[(name, deed)] & self.of_mark[mark]

    def fitting(self, point, other):
        """The points with marks that another deed can have in a call that does one at a point."""
        name, deed, mark = point
        kind = self.system[name]
        one, two = index_of(kind, deed), index_of(kind, other)
        if one == two:
            return self.of_mark[mark]
        # Two values that are both marked "other" may be different.
        if mark != OTHER and are_unlike(kind, one, two):
            return ~self.of_mark[mark]
        return -1

    def left_from(self, point, table):
        """What a table has for the deeds that a call can do that does one at a point, with fitting marks."""
        name, deed, _ = point
        kind = self.system[name]
        others = [other for other in range(len(kind.deeds)) if are_of_one_call(kind, deed, other)]
        return joined([table[(name, other)] & self.fitting(point, other) for other in others])

    def following(self, members):
        """What is entered from the deeds at which calls can be left that are entered at points of a set."""
        return joined([self.nexts[at] for at in bits(members)])

    def allowed(self, kind):
        """The points of the kinds whose calls may stand in ways of a kind."""
        return ~self.of_alone if kind.alone else -1

    def closed(self, members, allowed):
        """The points of a set, and all allowed ones that calls lead to from them."""
        found = members
        fresh = members
        while fresh:
            fresh = self.following(fresh) & allowed & ~found
            found = found | fresh
        return found

    def groups(self, kind):
        """The groups of the points that are entered in ways of a kind, each beside what follows them.

        A call that was entered can be left there again, and back to where it was entered from: of
        the points that are entered from allowed ones, each can be reached back from all that can be
        reached from it. So they fall into groups, and all of a group is reached as soon as a part is.
        """
        if kind.alone not in self.kept_groups:
            self.kept_groups[kind.alone] = self.found_groups(self.allowed(kind))
        return self.kept_groups[kind.alone]

    def found_groups(self, allowed):
        """The list of the groups among allowed points."""
        able = [point for at, point in enumerate(self.points) if 1 << at & allowed]
        rest = joined([self.entered(point) for point in able]) & allowed
        found = []
        while rest:
            group = self.closed(rest & -rest, allowed)
            found.append((group, self.following(group)))
            rest = rest & ~group
        return found

    def named(self, point):
        """The points with marks that stand in ways that begin at a point."""
        # Where the first value has another mark, "first" would be a second name for any other values.
        return -1 if point[2] == FIRST else ~self.of_mark[FIRST]

    def reached(self, point):
        """Where calls are entered in ways that begin at a point, and what follows these points."""
        kind = self.system[point[0]]
        found = self.entered(point) & self.allowed(kind)
        further = self.following(found)
        for group, behind in self.groups(kind):
            if group & further:
                found = found | group
                further = further | behind
        return (found & self.named(point), further & self.named(point))

    def ends(self, point, deed):
        """The points at which ways that begin at a point can come back to a deed of its kind."""
        name, first, _ = point
        if not are_of_one_call(self.system[name], first, deed):
            return 0
        return self.of_deed[(name, deed)] & self.fitting(point, deed) & self.named(point)

    def starts(self, name, deed):
        """The points at which ways from a deed can begin."""
        return [self.points[at] for at in bits(self.of_deed[(name, deed)] & ~self.of_mark[OTHER])]


def loops_of(points, kind):
    """The ascending list of the pairs of deeds of a kind, the first one at most the other, with ways between."""
    found = []
    many = len(kind.deeds)
    for deed in range(many):
        begun = [(point, points.reached(point)[1]) for point in points.starts(kind.name, deed)]
        for last in range(deed, many):
            if any([further & points.ends(point, last) != 0 for point, further in begun]):
                found.append((deed, last))
    return found
