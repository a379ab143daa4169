"""What the document says of engines, written down a second time, slowly and plainly, for the tests."""

import naive


class Refused(Exception):
    """A move that is refused, with the name of the error."""


class Work:
    """An engine as the document tells it: the calls, the row so far, and the locks as pairs of item and number."""

    def __init__(self, cutting, store, calls=()):
        self.cutting = cutting
        self.first = dict(store)
        self.calls = list(calls)
        self.row = []
        self.held = set()

    def copy(self):
        other = Work(self.cutting, self.first, self.calls)
        other.row, other.held = list(self.row), set(self.held)
        return other

    def pieces(self, number):
        return naive.pieces_of(self.cutting, self.calls[number])

    def is_over(self, number):
        return self.row.count(number) == len(self.pieces(number))

    def deeds(self, number):
        """The deeds of the next piece of a call with their items."""
        return [] if self.is_over(number) else self.pieces(number)[self.row.count(number)][1]

    def is_alone(self, number):
        return naive.kind_of(self.cutting.system, self.calls[number][0]).alone

    def others(self, number):
        return [other for other in range(len(self.calls)) if other != number]

    def alone_ahead(self, number):
        """The other alone calls for which the first piece of an alone call waits."""
        if not self.is_alone(number) or number in self.row:
            return ()
        busy = [other for other in self.others(number) if self.is_alone(other) and not self.is_over(other)]
        holders = {other for _, other in self.held}
        return tuple(other for other in busy if other in self.row or other in holders)

    def against(self, number, item):
        """The calls that hold an item with a deed that does not commute with one of a call's on it."""
        own = [row for row in self.deeds(number) if row[1] == item]
        return tuple(
            other
            for other in self.others(number)
            if (item, other) in self.held and any(naive.do_meet(row, act) for row in own for act in self.deeds(other))
        )

    def need(self, number):
        if number not in range(len(self.calls)) or type(number) is not int:
            raise Refused("UnknownCall")
        if self.is_over(number):
            raise Refused("NoPiece")

    def lock(self, number):
        self.need(number)
        if self.alone_ahead(number):
            return self.alone_ahead(number)
        for item in sorted({item for _, item in self.deeds(number)}):
            if (item, number) not in self.held:
                if self.against(number, item):
                    return self.against(number, item)
                self.held.add((item, number))
        return ()

    def commit(self, number):
        self.need(number)
        missing = [item for _, item in self.deeds(number) if (item, number) not in self.held]
        if missing or self.alone_ahead(number):
            raise Refused("NotOpen")
        self.leave(number)
        self.row.append(number)
        return self.is_over(number)

    def leave(self, number):
        self.need(number)
        self.held = {pair for pair in self.held if pair[1] != number}

    def crash(self):
        self.held = set()

    def go(self, number):
        """What `>>=` does."""
        self.need(number)
        before = set(self.held)
        if self.lock(number):
            self.held = before
            raise Refused("NotOpen")
        self.commit(number)

    def able(self):
        return [at for at in range(len(self.calls)) if not self.is_over(at) and self.copy().lock(at) == ()]

    def finish(self):
        while self.able():
            self.go(self.able()[0])

    def told(self):
        """What an engine tells of itself: store, marks, row, locks, which calls are able, whether all are over."""
        store, known = naive.run_over(self.cutting, self.calls, tuple(self.row), self.first)
        marks = [(self.row.count(number), known[number]) for number in range(len(self.calls))]
        over = all(self.is_over(number) for number in range(len(self.calls)))
        return (store, marks, tuple(self.row), sorted(self.held), self.able(), over)

    def state(self):
        return (tuple(self.row), frozenset(self.held))
