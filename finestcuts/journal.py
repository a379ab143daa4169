"""Journals of engines, and what is recovered from their texts."""

from finestcuts.calls import is_call
from finestcuts.engines import Engine
from finestcuts.errors import InvalidCutting, InvalidStore, InvalidText, StillOpen
from finestcuts.finest import is_right
from finestcuts.lines import (
    digest_of,
    read_event,
    text_of_line,
    whole_line,
    write_begin,
    write_commit,
    write_late_start,
    write_start,
)
from finestcuts.runs import MOST_CALLS
from finestcuts.stores import is_store


def first_text(engine):
    """The text of the first line of a journal of an engine."""
    if engine.run.calls:
        return write_late_start()
    return write_start(engine.cutting, engine.store)


class Journal:
    """An engine that holds no locks, and the lines that tell what was done with it."""

    def __init__(self, engine):
        holders = [number for _, number in engine.locks]
        if holders:
            raise StillOpen(min(holders))
        self.kept = engine.copy()
        self.lines = []
        self.digest = 0
        self.put_text(first_text(engine))

    def put_text(self, text):
        """Puts the line with this text behind the others."""
        self.lines.append(whole_line(text))
        self.digest = digest_of(text, self.digest)

    def next_text(self, event):
        """The text of the next line if it tells this."""
        return f"{len(self.lines)} {self.digest} {event}"

    def begin(self, call):
        """Begins a call, and returns its number."""
        number = self.kept.begin(call)
        self.put_text(self.next_text(write_begin(call)))
        return number

    def commit(self, number):
        """Opens and commits the next piece of a call; returns whether the call is over."""
        is_done = self.kept.do_next(number)
        self.put_text(self.next_text(write_commit(number)))
        return is_done

    def finish(self):
        """Opens and commits until all calls are over, always the first call that can get all locks."""
        while not self.kept.is_over:
            self.commit(self.kept.able()[0])

    def engine(self):
        """A copy of the engine as it is now."""
        return self.kept.copy()

    def text(self):
        """What was written."""
        return "".join([line + "\n" for line in self.lines])

    def __eq__(self, other):
        return type(other) is Journal and self.kept == other.kept and self.lines == other.lines

    def can_begin(self, value):
        """Whether any value is a call that can be begun."""
        return is_call(self.kept.cutting.system, value) and len(self.kept.marks) < MOST_CALLS

    def follow_event(self, word, value, text):
        """Does what is told if it can come next and is written like this; returns whether it is."""
        if word == "begin" and self.can_begin(value) and text == write_begin(value):
            self.begin(value)
        elif word == "commit" and value in self.kept.able() and text == write_commit(value):
            self.commit(value)
        else:
            return False
        return True

    def follow_line(self, line):
        """Does what a line tells if it is whole and can be the next one; returns whether it is."""
        told = text_of_line(line)
        head = self.next_text("")
        if told is None or not told.startswith(head):
            return False
        text = told.removeprefix(head)
        event = read_event(text)
        if event is None:
            return False
        word, value = event
        return self.follow_event(word, value, text)


def resume(cutting, store, text):
    """The journal that goes on from what is recovered from a text."""
    if not is_right(cutting):
        raise InvalidCutting(cutting)
    if not is_store(store):
        raise InvalidStore(store)
    if type(text) is not str:
        raise InvalidText(text)
    journal = Journal(Engine(cutting, store))
    # What stands behind the last line feed is no line.
    first, *others = text.split("\n")
    if first == journal.lines[0]:
        for line in others[:-1]:
            if not journal.follow_line(line):
                break
    return journal


def recover(cutting, store, text):
    """The engine that is recovered from the text of a journal of an engine without calls."""
    return resume(cutting, store, text).engine()
