"""Engines: they perform the pieces of calls with locks, and go on after crashes."""

from finestcuts.calls import is_call
from finestcuts.errors import InvalidCall, InvalidCutting, InvalidStore, NoPiece, NotOpen, TooMany, UnknownCall
from finestcuts.finest import is_right
from finestcuts.forms import is_number
from finestcuts.runs import MOST_CALLS, Run
from finestcuts.stores import is_store, without_zeros
from finestcuts.tasks import Task


class Engine:
    """A right cutting, a store, and calls that go on piece by piece."""

    def __init__(self, cutting, store=None):
        if not is_right(cutting):
            raise InvalidCutting(cutting)
        if store is not None and not is_store(store):
            raise InvalidStore(store)
        self.cutting = cutting
        self.first_store = {} if store is None else without_zeros(store)
        self.kept_store = without_zeros(self.first_store)
        self.tasks = []
        self.row = ()
        self.is_over = True

    @property
    def store(self):
        """A new dict of the items whose value is not 0."""
        return without_zeros(self.kept_store)

    @property
    def run(self):
        """The run of all committed pieces."""
        return Run(self.cutting, tuple([task.call for task in self.tasks]), self.row)

    @property
    def marks(self):
        """The list with, for each call, how many of its pieces are done, and the dict of its locals."""
        return [(task.done, task.told_locals()) for task in self.tasks]

    @property
    def locks(self):
        """The ascending list of the locks that are held: pairs of an item and the number of a call."""
        return sorted([(item, number) for number, task in enumerate(self.tasks) for item in task.held_items()])

    def begin(self, call):
        """Begins a call, and returns its number."""
        if not is_call(self.cutting.system, call):
            raise InvalidCall(call)
        if len(self.tasks) == MOST_CALLS:
            raise TooMany(MOST_CALLS)
        self.tasks.append(Task(self.cutting, call))
        self.is_over = False
        return len(self.tasks) - 1

    def need_piece(self, number):
        """Raises the errors for what is no number of a call, and for a call that is over."""
        if not is_number(number, len(self.tasks)):
            raise UnknownCall(number)
        if self.tasks[number].is_done():
            raise NoPiece(number)

    def alone_ahead(self, number):
        """The tuple of the other alone calls for which the first piece of an alone call waits."""
        task = self.tasks[number]
        if not task.is_alone or task.done > 0:
            return ()
        return tuple(
            [
                other
                for other, rival in enumerate(self.tasks)
                if other != number and rival.is_alone and rival.is_in_hand()
            ]
        )

    def lockable(self, number):
        """How many locks a call can have now, and the tuple of the calls for which it waits then."""
        task = self.tasks[number]
        ahead = self.alone_ahead(number)
        if ahead:
            return (task.locked, ahead)
        rivals = [(other, rival) for other, rival in enumerate(self.tasks) if other != number and rival.locked > 0]
        deeds = task.next_deeds()
        items = task.next_items()
        for at in range(task.locked, len(items)):
            waits = tuple([other for other, rival in rivals if rival.stands_against(items[at], deeds)])
            if waits:
                return (at, waits)
        return (len(items), ())

    def lock(self, number):
        """Goes on with taking the locks of the next piece; returns the calls for which it waits."""
        self.need_piece(number)
        task = self.tasks[number]
        task.locked, waits = self.lockable(number)
        return waits

    def commit(self, number):
        """Commits the open piece; returns whether the call is over."""
        self.need_piece(number)
        task = self.tasks[number]
        if self.alone_ahead(number) or task.locked < len(task.next_items()):
            raise NotOpen(number)
        task.perform_next(self.kept_store)
        self.row = (*self.row, number)
        self.is_over = all([other.is_done() for other in self.tasks])
        return task.is_done()

    def leave(self, number):
        """Gives back all locks of the piece that is being opened."""
        self.need_piece(number)
        self.tasks[number].locked = 0

    def crash(self):
        """Loses all locks."""
        for task in self.tasks:
            task.locked = 0

    def able(self):
        """The ascending list of the calls that are not over and could get all locks now."""
        return [
            number for number, task in enumerate(self.tasks) if not task.is_done() and self.lockable(number)[1] == ()
        ]

    def do_next(self, number):
        """Opens and commits the next piece of a call, or takes no lock; returns whether the call is over."""
        self.need_piece(number)
        locked, waits = self.lockable(number)
        if waits:
            raise NotOpen(number)
        self.tasks[number].locked = locked
        return self.commit(number)

    def finish(self):
        """Opens and commits until all calls are over, always the first call that can get all locks."""
        while not self.is_over:
            self.do_next(self.able()[0])

    def __irshift__(self, number):
        self.do_next(number)
        return self

    def copy(self):
        """An equal, independent engine."""
        other = Engine(self.cutting, self.first_store)
        other.kept_store = without_zeros(self.kept_store)
        other.tasks = [task.twin(self.cutting) for task in self.tasks]
        other.row = self.row
        other.is_over = self.is_over
        return other

    def __eq__(self, other):
        return (
            type(other) is Engine
            and self.cutting == other.cutting
            and self.first_store == other.first_store
            and [task.call for task in self.tasks] == [task.call for task in other.tasks]
            and self.row == other.row
            and self.store == other.store
            and self.locks == other.locks
        )
