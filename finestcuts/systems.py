"""Systems: the kinds of transactions that run at the same time."""

from finestcuts.errors import InvalidKinds, UnknownKind
from finestcuts.kinds import Kind


def are_kinds(value):
    """Whether any value is a tuple of 1 to 5 kinds with different names."""
    if type(value) is not tuple or not 1 <= len(value) <= 5:
        return False
    if not all([type(kind) is Kind for kind in value]):
        return False
    return len(set([kind.name for kind in value])) == len(value)


def indices_and_unlikes(kind):
    """The indices of all places of a kind, and what stands last in its pairs of what is unlike."""
    return [deed[1][1] for deed in kind.deeds] + [other for _, other in kind.unlike]


def constants_of(kinds):
    """The ascending tuple of all integers that are indices or stand in pairs of what is unlike."""
    found = [value for kind in kinds for value in indices_and_unlikes(kind) if type(value) is int]
    return tuple(sorted(set(found)))


class System:
    """Kinds of transactions, with different names."""

    def __init__(self, kinds, most=12):
        if not are_kinds(kinds):
            raise InvalidKinds(kinds)
        constants = constants_of(kinds)
        if len(constants) > most:
            raise InvalidKinds(kinds)
        self.kinds = kinds
        self.names = tuple([kind.name for kind in kinds])
        self.constants = constants
        self.most = most

    def __len__(self):
        return len(self.kinds)

    def __iter__(self):
        # Without this, Python would try the numbers from 0 on as names.
        raise TypeError("a system cannot be iterated over")

    def __contains__(self, name):
        return type(name) is str and name in self.names

    def __getitem__(self, name):
        if name not in self:
            raise UnknownKind(name)
        return self.kinds[self.names.index(name)]

    def __add__(self, kind):
        return System((*self.kinds, kind), self.most)

    def __sub__(self, name):
        if name not in self:
            raise UnknownKind(name)
        return System(tuple([kind for kind in self.kinds if kind.name != name]), self.most)

    def __eq__(self, other):
        return type(other) is System and self.kinds == other.kinds
