"""New kinds and the cuts that they break, and designs: right cuttings that are changed step by step."""

from finestcuts.cuttings import Cutting
from finestcuts.errors import InvalidCuts, InvalidCutting, InvalidKind
from finestcuts.finest import finest, is_right, need_cutting
from finestcuts.kinds import Kind
from finestcuts.wrongs import found_wrong


def wider(system, kind):
    """The system with one more kind."""
    if type(kind) is not Kind or kind.name in system:
        raise InvalidKind("name")
    return system + kind


def broken(cutting, kind):
    """The ascending list of the cuts of a cutting that are wrong in the system with one more kind."""
    need_cutting(cutting)
    return found_wrong(wider(cutting.system, kind), cutting.cuts)


class Trial:
    """Takes back, behind the block of a `with`, whatever was done with a design within it."""

    def __init__(self, design):
        self.design = design
        self.cutting = None
        self.earlier = None

    def __enter__(self):
        self.cutting = self.design.cutting
        self.earlier = self.design.earlier
        return self.design

    def __exit__(self, kind, value, trace):
        design = self.design
        design.cutting = self.cutting
        design.earlier = self.earlier

    def __eq__(self, other):
        return (
            type(other) is Trial
            and self.design == other.design
            and self.cutting == other.cutting
            and self.earlier == other.earlier
        )


class Design:
    """A right cutting, and the changes that led to it."""

    def __init__(self, cutting):
        if not is_right(cutting):
            raise InvalidCutting(cutting)
        self.cutting = cutting
        # The cuttings ahead of the changes that can be taken back; a tuple, so that a trial need not copy it.
        self.earlier = ()

    def put(self, cutting):
        """Puts another right cutting in place of the one that is there."""
        if cutting != self.cutting:
            self.earlier = (*self.earlier, self.cutting)
            self.cutting = cutting

    def add(self, kind):
        """Adds a kind at the end, takes the cuts away that it breaks, and returns their ascending list."""
        wrong = broken(self.cutting, kind)
        kept = [cut for cut in self.cutting if cut not in wrong]
        self.put(Cutting(wider(self.cutting.system, kind), kept))
        return wrong

    def drop(self, name):
        """Takes a kind out with its cuts."""
        system = self.cutting.system - name
        self.put(Cutting(system, [cut for cut in self.cutting if cut[0] != name]))

    def cut(self, cuts):
        """Adds cuts."""
        added = Cutting(self.cutting.system, cuts)
        wrong = found_wrong(added.system, added.cuts)
        if wrong:
            raise InvalidCuts(wrong)
        self.put(self.cutting | added)

    def join(self, cuts):
        """Takes cuts away, those that are there."""
        self.put(self.cutting - Cutting(self.cutting.system, cuts))

    def refine(self):
        """Puts the finest right cutting there."""
        self.put(finest(self.cutting.system))

    def undo(self):
        """Takes the last of the changes back that changed something; returns whether there was one."""
        if not self.earlier:
            return False
        self.cutting = self.earlier[-1]
        self.earlier = self.earlier[:-1]
        return True

    def trial(self):
        """Returns a context manager, behind whose block the design is as it was ahead of it."""
        return Trial(self)

    def tried(self, kinds):
        """The list of what adding each of these kinds, one after the other, would return."""
        design = Design(self.cutting)
        return [design.add(kind) for kind in kinds]

    def __eq__(self, other):
        return type(other) is Design and self.cutting == other.cutting and self.earlier == other.earlier
