"""Calls whose pieces are to come in any timely order, and what beginnings of their rows have in common."""

from math import factorial

from finestcuts.calls import first_values
from finestcuts.keeping import names_in_sums
from finestcuts.orders import do_commute
from finestcuts.pieces import pieces_of_call
from finestcuts.runs import alone_flags, do_piece, need_calls, next_numbers, take_back
from finestcuts.stores import without_zeros


def put_at(values, at, value):
    """A tuple with another value at one place."""
    return (*values[:at], value, *values[at + 1 :])


def names_needed(parts):
    """The ascending tuple of the names in the sums of these pieces of a call."""
    deeds = [deed for is_back, acts in parts if not is_back for deed, _ in acts]
    return tuple(sorted(set(names_in_sums(deeds))))


class Plan:
    """Calls of a cutting; how far they are is told by the tuple of how many pieces each of them has left."""

    def __init__(self, cutting, calls):
        need_calls(cutting, calls)
        self.system = cutting.system
        self.calls = calls
        self.parts = [pieces_of_call(cutting, call) for call in calls]
        self.counts = tuple([len(parts) for parts in self.parts])
        self.flags = alone_flags(cutting, calls)
        self.needed = [[names_needed(parts[at:]) for at in range(len(parts) + 1)] for parts in self.parts]

    def row_count(self, left):
        """How many timely rows there are of the pieces that are left."""
        alone = [number for number, flag in enumerate(self.flags) if flag]
        # The pieces of the alone calls come in one row, whose only choice is the order of the calls not begun.
        waiting = [number for number in alone if left[number] == self.counts[number]]
        found = factorial(sum(left)) // factorial(sum([left[number] for number in alone])) * factorial(len(waiting))
        for number, flag in enumerate(self.flags):
            if not flag:
                found = found // factorial(left[number])
        return found

    def coming(self, left):
        """The list of the calls whose next pieces may come next."""
        return next_numbers(left, self.counts, self.flags)

    def pieces_done(self, left, number):
        """How many pieces of a call are done."""
        return self.counts[number] - left[number]

    def one_less(self, left, number):
        """How many pieces each call has left behind the next one of this call."""
        return put_at(left, number, left[number] - 1)

    def first_met(self, number, at, other):
        """The first piece of another call with which a piece of a call does not commute, or how many there are."""
        deeds = self.parts[number][at][1]
        met = [to for to, (_, acts) in enumerate(self.parts[other]) if not do_commute(deeds, acts)]
        return met[0] if met else len(self.parts[other])

    def all_met(self):
        """The dict from each call and piece to the first pieces of all calls with which it does not commute."""
        many = len(self.calls)
        return {
            (number, at): [self.first_met(number, at, other) for other in range(many)]
            for number in range(many)
            for at in range(self.counts[number])
        }

    def values_ahead(self, left, number, told):
        """A new dict of the values of the parameters and locals of a call ahead of its next piece."""
        values = first_values(self.system, self.calls[number])
        for name, value in zip(self.needed[number][self.pieces_done(left, number)], told):
            values[name] = value
        return values

    def after_piece(self, state, number):
        """What there is behind the next piece of a call.

        A state has what is left, the items of the store, and, for each call, only those values of its locals and
        its adds that still make a difference: so more beginnings are alike.
        """
        left, items, known, added = state
        is_back, deeds = self.parts[number][self.pieces_done(left, number)]
        store = {item: worth for item, worth in items}
        values = self.values_ahead(left, number, known[number])
        amounts = list(added[number])
        if is_back:
            take_back(deeds, store, amounts)
        else:
            do_piece(deeds, store, values, amounts)
        left = self.one_less(left, number)
        if self.calls[number][3] is None or left[number] == 0:
            amounts = []
        told = tuple([values[name] for name in self.needed[number][self.pieces_done(left, number)]])
        items = tuple(sorted(list(without_zeros(store).items())))
        return (left, items, put_at(known, number, told), put_at(added, number, tuple(amounts)))
