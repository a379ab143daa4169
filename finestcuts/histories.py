"""Histories: what the pieces of a run have read, as it is told from outside."""

from finestcuts.calls import amount_of, first_values
from finestcuts.errors import InvalidRow, InvalidStore
from finestcuts.orders import need_run
from finestcuts.runs import do_row, pieces_in_row
from finestcuts.stores import is_store, without_zeros
from finestcuts.unknowns import Unknown


def need_store(store):
    """Raises the error for what is no store."""
    if not is_store(store):
        raise InvalidStore(store)


def is_numbers(value):
    """Whether any value is a tuple of integers."""
    return type(value) is tuple and all([type(number) is int for number in value])


def need_told(run, told):
    """Raises the error for what cannot be told of a run: a list with a tuple of integers for each position."""
    if type(told) is not list or len(told) != len(run) or not all([is_numbers(row) for row in told]):
        raise InvalidRow(told)


def reads_of(run, store):
    """The list of what the pieces of a run read with a store."""
    _, got = do_row(run, without_zeros(store))
    return got


def reads(run, store):
    """The list with, for each position of the row, the tuple of the values that its reads got."""
    need_run(run)
    need_store(store)
    return reads_of(run, store)


def find_wrong(run, store, told):
    """The first position at which what is told differs from what was read, or None."""
    need_run(run)
    need_store(store)
    need_told(run, told)
    for position, (row, got) in enumerate(zip(told, reads_of(run, store))):
        if row != got:
            return position
    return None


def follow_deed(deed, item, known, amounts, unknowns):
    """Goes on over a deed that changes an item."""
    word, _, last = deed
    amount = amount_of(last, known)
    if word == "add":
        amounts.append(amount)
    unknowns[item].follow(word, amount)


def follow_piece(deeds, row, known, amounts, unknowns):
    """Goes on over the deeds of a piece that has read these values; returns whether that can be."""
    if len(row) != len([word for (word, _, _), _ in deeds if word == "read"]):
        return False
    at = 0
    for deed, item in deeds:
        if deed[0] != "read":
            follow_deed(deed, item, known, amounts, unknowns)
        elif unknowns[item].can_be(row[at]):
            # From here on, the local has the value that is told, whatever the store was.
            known[deed[2]] = row[at]
            at += 1
        else:
            return False
    return True


def follow_back(deeds, amounts, unknowns):
    """Goes on over a piece that takes adds back."""
    for _, item in deeds:
        unknowns[item].follow("add", -amounts.pop())


def best_store(run, told):
    """A store from which a run reads what is told, or None if there is none."""
    need_run(run)
    need_told(run, told)
    pieces = pieces_in_row(run)
    unknowns = {item: Unknown() for _, deeds in pieces for _, item in deeds}
    known = [first_values(run.cutting.system, call) for call in run.calls]
    added = [[] for _ in run.calls]
    for number, (is_back, deeds), row in zip(run.row, pieces, told):
        if is_back:
            if row != ():
                return None
            follow_back(deeds, added[number], unknowns)
        elif not follow_piece(deeds, row, known[number], added[number], unknowns):
            return None
    return without_zeros({item: unknown.least_value() for item, unknown in unknowns.items()})
