"""Calls that an engine has begun: what they have done so far, and which items they hold."""

from finestcuts.calls import first_values, values_of_locals
from finestcuts.deeds import are_clashing
from finestcuts.pieces import pieces_of_call
from finestcuts.runs import do_piece, take_back


class Task:
    """A call with the state in which it is: pieces done, values of its locals, adds, and locks."""

    def __init__(self, cutting, call):
        system = cutting.system
        self.call = call
        self.system = system
        self.is_alone = system[call[0]].alone
        self.parts = pieces_of_call(cutting, call)
        self.done = 0
        self.locked = 0
        self.known = first_values(system, call)
        self.amounts = []

    def is_done(self):
        """Whether the call is over."""
        return self.done == len(self.parts)

    def next_deeds(self):
        """The list of the deeds of the next piece with their items; of a call that is over there are none."""
        return [] if self.is_done() else self.parts[self.done][1]

    def next_items(self):
        """The ascending list of the items whose locks the next piece needs."""
        return sorted(set([item for _, item in self.next_deeds()]))

    def held_items(self):
        """The list of the items that it holds: the locks are always taken in ascending order."""
        return self.next_items()[: self.locked]

    def is_in_hand(self):
        """Whether the call is not over and has done a piece or holds locks."""
        return not self.is_done() and (self.done > 0 or self.locked > 0)

    def stands_against(self, item, deeds):
        """Whether the call holds an item with a deed that does not commute with one of these deeds on it."""
        if item not in self.held_items():
            return False
        own = [deed for deed, place in self.next_deeds() if place == item]
        return any([place == item and are_clashing(deed, act) for deed in own for act, place in deeds])

    def told_locals(self):
        """A new dict of the values of the locals."""
        return values_of_locals(self.system, self.call, self.known)

    def perform_next(self, store):
        """Performs the next piece, which changes the store, and gives its locks back."""
        is_back, deeds = self.parts[self.done]
        if is_back:
            take_back(deeds, store, self.amounts)
        else:
            do_piece(deeds, store, self.known, self.amounts)
        self.done = self.done + 1
        self.locked = 0

    def twin(self, cutting):
        """An independent task in the same state."""
        other = Task(cutting, self.call)
        other.done = self.done
        other.locked = self.locked
        other.known = {name: self.known[name] for name in self.known}
        other.amounts = list(self.amounts)
        return other
