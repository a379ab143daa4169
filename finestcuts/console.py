"""A console: lines of text that are executed one after the other, and answered."""

from finestcuts.commands import read_line, write_pairs
from finestcuts.cuttings import Cutting
from finestcuts.engines import Engine
from finestcuts.errors import InvalidLine, NoEngine, NoSystem
from finestcuts.finest import finest, wrong_cuts
from finestcuts.orders import order
from finestcuts.texts import parse_system
from finestcuts.ways import bad_pairs
from finestcuts.writing import write_cuts, write_numbers, write_store

FOR_ENGINES = ("begin", "go", "lock", "crash", "store", "order")


class Console:
    """A system with a cutting, and an engine; none of these at first."""

    def __init__(self):
        self.cutting = None
        self.running = None

    def __eq__(self, other):
        return type(other) is Console and self.cutting == other.cutting and self.running == other.running

    def need(self, word):
        """Raises the errors for what a line with this first word needs."""
        if word != "load" and self.cutting is None:
            raise NoSystem()
        if word in FOR_ENGINES and self.running is None:
            raise NoEngine()

    def answer(self, line):
        """Executes a line and returns the answer."""
        told = read_line(line)
        if told is None:
            raise InvalidLine()
        word, rest = told
        self.need(word)
        if word in FOR_ENGINES:
            return self.answer_of_engine(word, rest)
        if word in ("load", "cut", "engine"):
            self.start(word, rest)
            return "ok"
        return self.answer_of_cutting(word, rest)

    def start(self, word, rest):
        """Puts another system, other cuts or another engine there."""
        if word == "engine":
            self.running = Engine(self.cutting)
            return
        if word == "load":
            self.cutting = Cutting.whole(parse_system(rest))
        else:
            self.cutting = Cutting(self.cutting.system, rest)
        self.running = None

    def answer_of_cutting(self, word, rest):
        """The answer to a line that asks for something of the system or the cutting."""
        if word == "pairs":
            return write_pairs(bad_pairs(self.cutting.system, rest)) or "none"
        if word == "finest":
            return write_cuts(finest(self.cutting.system).cuts) or "none"
        wrong = wrong_cuts(self.cutting)
        return "wrong at " + write_cuts(wrong) if wrong else "right"

    def answer_of_engine(self, word, rest):
        """The answer to a line that needs an engine."""
        if word == "begin":
            return str(self.running.begin(rest))
        if word == "go":
            return self.go(rest)
        if word == "lock":
            waits = self.running.lock(rest)
            return "waits for " + write_numbers(waits) if waits else "open"
        if word == "crash":
            self.running.crash()
            return "ok"
        if word == "store":
            return write_store(self.running.store) or "empty"
        return write_numbers(order(self.running.run)) or "none"

    def go(self, number):
        """Goes on with taking the locks of a call, and commits if it has all."""
        if self.running.lock(number):
            return "waits"
        return "over" if self.running.commit(number) else "done"
