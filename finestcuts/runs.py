"""Runs: the pieces of calls, done in any order."""

from finestcuts.calls import amount_of, do_deed, first_values, is_call, values_of_locals
from finestcuts.cuttings import Cutting
from finestcuts.errors import (
    InvalidCall,
    InvalidCutting,
    InvalidNumber,
    InvalidRow,
    InvalidStore,
    NoPiece,
    UnknownCall,
)
from finestcuts.forms import is_number
from finestcuts.pieces import piece_count, pieces_of_call
from finestcuts.stores import is_store, without_zeros

MOST_CALLS = 40


def need_calls(cutting, calls):
    """Raises the errors for a wrong cutting and for wrong calls."""
    if type(cutting) is not Cutting:
        raise InvalidCutting(cutting)
    if type(calls) is not tuple or len(calls) > MOST_CALLS:
        raise InvalidCall(calls)
    for call in calls:
        if not is_call(cutting.system, call):
            raise InvalidCall(call)


def piece_counts(cutting, calls):
    """The list of how many pieces each call has."""
    return [piece_count(cutting, call) for call in calls]


def alone_flags(cutting, calls):
    """The list of whether each call is of a kind that is alone."""
    return [cutting.system[call[0]].alone for call in calls]


def is_row(value, counts):
    """Whether any value is a row of calls that have so many pieces."""
    if type(value) is not tuple or not all([is_number(number, len(counts)) for number in value]):
        return False
    return all([value.count(number) <= count for number, count in enumerate(counts)])


def is_timely_row(row, counts, flags):
    """Whether a row of calls with so many pieces is timely, flags telling which calls are alone."""
    done = [0 for _ in counts]
    begun = None
    for number in row:
        if flags[number]:
            if begun is not None and begun != number:
                return False
            done[number] = done[number] + 1
            # As soon as it has all its pieces, another alone call may begin.
            begun = number if done[number] < counts[number] else None
    return True


def pieces_in_row(run):
    """The list of what each piece of the row is, as the pieces of calls are told."""
    pieces = [pieces_of_call(run.cutting, call) for call in run.calls]
    done = [0 for _ in run.calls]
    found = []
    for number in run.row:
        found.append(pieces[number][done[number]])
        done[number] = done[number] + 1
    return found


def do_piece(deeds, store, known, amounts):
    """Performs the deeds of a piece; puts the values of the sums of its adds behind the amounts.

    Returns the tuple of the values that its reads got.
    """
    got = []
    for deed, item in deeds:
        if deed[0] == "add":
            amounts.append(amount_of(deed[2], known))
        if deed[0] == "read":
            got.append(store.get(item, 0))
        do_deed(deed, item, store, known)
    return tuple(got)


def take_back(deeds, store, amounts):
    """Takes adds back; takes their values from the end of the amounts."""
    for _, item in deeds:
        store[item] = store.get(item, 0) - amounts.pop()


def do_row(run, store):
    """Performs all pieces of a run, which changes the store.

    Returns the list of what is known of the locals of each call, and the list of what each piece has read.
    """
    known = [first_values(run.cutting.system, call) for call in run.calls]
    added = [[] for _ in run.calls]
    got = []
    for number, (is_back, deeds) in zip(run.row, pieces_in_row(run)):
        if is_back:
            # All back pieces together take the adds back in just the opposite order.
            take_back(deeds, store, added[number])
            got.append(())
        else:
            got.append(do_piece(deeds, store, known[number], added[number]))
    return (known, got)


class Run:
    """Calls of a cutting, and a row of the numbers of those whose pieces were done."""

    def __init__(self, cutting, calls, row=()):
        need_calls(cutting, calls)
        counts = piece_counts(cutting, calls)
        if not is_row(row, counts):
            raise InvalidRow(row)
        self.cutting = cutting
        self.calls = calls
        self.row = row
        self.counts = tuple(counts)
        self.is_over = len(row) == sum(counts)
        self.is_timely = is_timely_row(row, counts, alone_flags(cutting, calls))

    def left(self, number):
        """How many pieces a call still has."""
        if not is_number(number, len(self.calls)):
            raise UnknownCall(number)
        return self.counts[number] - self.row.count(number)

    def performed(self, position):
        """The list of what the piece at a position of the row performs: deeds with their items."""
        if not is_number(position, len(self.row)):
            raise InvalidNumber(position)
        number = self.row[position]
        _, deeds = pieces_of_call(self.cutting, self.calls[number])[self.row[:position].count(number)]
        return deeds

    def __rshift__(self, number):
        if self.left(number) == 0:
            raise NoPiece(number)
        return Run(self.cutting, self.calls, (*self.row, number))

    def __call__(self, store):
        if not is_store(store):
            raise InvalidStore(store)
        system = self.cutting.system
        after = without_zeros(store)
        known, _ = do_row(self, after)
        told = [values_of_locals(system, call, values) for call, values in zip(self.calls, known)]
        return (without_zeros(after), told)

    def __len__(self):
        return len(self.row)

    def __eq__(self, other):
        return (
            type(other) is Run and self.cutting == other.cutting and self.calls == other.calls and self.row == other.row
        )


def next_numbers(left, counts, flags):
    """The ascending list of the calls whose next pieces may come next in a timely row."""
    begun = [number for number, flag in enumerate(flags) if flag and 0 < left[number] < counts[number]]
    return [
        number for number in range(len(counts)) if left[number] > 0 and (not flags[number] or begun in ([], [number]))
    ]


def number_from(least, left, counts, flags):
    """The least call from this number on that may be the next one in a timely row, or None."""
    numbers = [number for number in next_numbers(left, counts, flags) if number >= least]
    return numbers[0] if numbers else None


def all_rows(cutting, calls):
    """Yields all timely rows with which a run of these calls is over, in list order."""
    need_calls(cutting, calls)
    counts = piece_counts(cutting, calls)
    flags = alone_flags(cutting, calls)
    row = []
    left = list(counts)
    least = 0
    while True:
        number = number_from(least, left, counts, flags)
        if number is not None:
            row.append(number)
            left[number] = left[number] - 1
            least = 0
        else:
            if len(row) == sum(counts):
                yield tuple(row)
            if not row:
                return
            # Every timely row can be gone on with, so no row is begun in vain.
            number = row.pop()
            left[number] = left[number] + 1
            least = number + 1
