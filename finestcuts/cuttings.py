"""Cuttings: at which positions the rows of steps of the kinds are cut."""

from finestcuts.errors import InvalidCuts, InvalidCutting, InvalidSystem
from finestcuts.forms import is_pair
from finestcuts.systems import System


def is_cut(system, value):
    """Whether any value is a cut of a kind of a system."""
    if not is_pair(value):
        return False
    name, position = value
    return name in system and type(position) is int and 1 <= position < len(system[name])


def are_cuts(system, value):
    """Whether any value is a list or tuple of different cuts of a system."""
    if type(value) not in (list, tuple) or not all([is_cut(system, cut) for cut in value]):
        return False
    return len(set(value)) == len(value)


def all_cuts(system):
    """The list of all cuts of a system."""
    return [(kind.name, position) for kind in system.kinds for position in range(1, len(kind))]


class Cutting:
    """A system with cuts."""

    def __init__(self, system, cuts):
        if type(system) is not System:
            raise InvalidSystem(system)
        if not are_cuts(system, cuts):
            raise InvalidCuts(cuts)
        self.system = system
        self.cuts = tuple(sorted(cuts))

    @classmethod
    def whole(cls, system):
        """The cutting without cuts."""
        return cls(system, ())

    @classmethod
    def single(cls, system):
        """The cutting with all cuts."""
        if type(system) is not System:
            raise InvalidSystem(system)
        return cls(system, all_cuts(system))

    def pieces(self, name):
        """The tuple of the pieces of a kind: the first step, and the step behind the last one."""
        size = len(self.system[name])
        ends = [0, *[position for owner, position in self.cuts if owner == name], size]
        return tuple(zip(ends, ends[1:]))

    def need_same_system(self, other):
        """Raises the error for what is no cutting of an equal system."""
        if type(other) is not Cutting or self.system != other.system:
            raise InvalidCutting(other)

    def is_coarser(self, other):
        """Whether each cut is one of the other's, too."""
        self.need_same_system(other)
        return all([cut in other.cuts for cut in self.cuts])

    def __or__(self, other):
        self.need_same_system(other)
        return Cutting(self.system, sorted(set(self.cuts) | set(other.cuts)))

    def __and__(self, other):
        self.need_same_system(other)
        return Cutting(self.system, [cut for cut in self.cuts if cut in other.cuts])

    def __sub__(self, other):
        self.need_same_system(other)
        return Cutting(self.system, [cut for cut in self.cuts if cut not in other.cuts])

    def __contains__(self, cut):
        return is_cut(self.system, cut) and cut in self.cuts

    def __len__(self):
        return len(self.cuts)

    def __iter__(self):
        return iter(self.cuts)

    def __eq__(self, other):
        return type(other) is Cutting and self.system == other.system and self.cuts == other.cuts
