"""The errors of the package: each keeps its argument, which may be any object."""


class CutError(ValueError):
    """A value that is handed in is wrong."""


class InvalidItem(CutError):
    """What should be a deed is none."""

    def __init__(self, value):
        self.value = value


class InvalidKind(CutError):
    """A part of a kind is wrong."""

    def __init__(self, part):
        self.part = part


class InvalidKinds(CutError):
    """What should be the kinds of a system are none."""

    def __init__(self, value):
        self.value = value


class InvalidSystem(CutError):
    """What should be a system is none."""

    def __init__(self, value):
        self.value = value


class InvalidStore(CutError):
    """What should be a store is none."""

    def __init__(self, value):
        self.value = value


class InvalidCall(CutError):
    """What should be a call of a system is none."""

    def __init__(self, value):
        self.value = value


class InvalidCutting(CutError):
    """What should be a cutting is none, or not such a one."""

    def __init__(self, value):
        self.value = value


class InvalidCuts(CutError):
    """What should be cuts of a system are none, or not such ones."""

    def __init__(self, value):
        self.value = value


class InvalidRow(CutError):
    """What should be a row of a run is none."""

    def __init__(self, value):
        self.value = value


class InvalidRun(CutError):
    """What should be a run is none."""

    def __init__(self, value):
        self.value = value


class InvalidOrder(CutError):
    """What should be a chain of steps, or chains, is none."""

    def __init__(self, value):
        self.value = value


class InvalidCosts(CutError):
    """What should be costs is none."""

    def __init__(self, value):
        self.value = value


class InvalidNumber(CutError):
    """What should be a position or an index is none."""

    def __init__(self, value):
        self.value = value


class InvalidText(CutError):
    """What should be a text is none."""

    def __init__(self, value):
        self.value = value


class InvalidLine(CutError):
    """What should be a line of the console is none."""


class ParseError(CutError):
    """A text is not that of a system."""

    def __init__(self, line):
        self.line = line


class NoPiece(LookupError):
    """A call has no piece left."""

    def __init__(self, number):
        self.number = number


class NotInOrder(LookupError):
    """A run cannot be put in order."""


class UnknownKind(LookupError):
    """A system has no kind of this name."""

    def __init__(self, value):
        self.value = value


class UnknownCall(LookupError):
    """There is no call of this number."""

    def __init__(self, value):
        self.value = value


class NotOpen(LookupError):
    """The next piece of a call is not open."""

    def __init__(self, number):
        self.number = number


class NoSystem(LookupError):
    """The console has no system."""


class NoEngine(LookupError):
    """The console has no engine."""


class StillOpen(RuntimeError):
    """A call holds locks."""

    def __init__(self, number):
        self.number = number


class TooMany(OverflowError):
    """There are more than the limit."""

    def __init__(self, limit):
        self.limit = limit
