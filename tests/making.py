"""Makes kinds and systems of all shapes, and calls of them, the same ones in each run of the tests."""

from finestcuts.kinds import Kind
from finestcuts.systems import System

NAMES = ("pay", "look", "both", "move", "lose")
INTEGERS = (0, 1, -1, 2, -3, 10**99, 1 - 10**100)
CHANGES = ("add", "raise", "lower", "put")


class Maker:
    """Makes parts of systems from a source of random choices."""

    def __init__(self, source):
        self.source = source

    def some(self, values, most):
        """Different ones of the values, at most so many, in their order."""
        many = self.source.randint(0, min(most, len(values)))
        return sorted(self.source.sample(range(len(values)), many))

    def sum(self, known):
        names = sorted(known)
        terms = [(self.source.choice(INTEGERS[1:]), names[at]) for at in self.some(names, 3)]
        return ("sum", self.source.choice(INTEGERS), tuple(terms))

    def deed(self, parameters, known):
        """A deed; adds to known, a list, the local that it reads."""
        place = (self.source.choice("mst"), self.source.choice((*parameters, *INTEGERS[:3])))
        if self.source.random() < 0.4:
            known.append(self.source.choice(("x", "y", "abcdefgh")))
            return ("read", place, known[-1])
        return (self.source.choice(CHANGES), place, self.sum(set(known)))

    def side(self, parameters, known):
        own = list(known)
        deeds = tuple(self.deed(parameters, own) for _ in range(self.source.choice((0, 1, 1, 2))))
        return deeds, own[len(known) :]

    def step(self, parameters, known):
        word = self.source.choice(("check", "choose", "deed", "deed"))
        if word == "check":
            return ("check", self.source.choice(("x", "enough", "sum")))
        if word == "deed":
            return self.deed(parameters, known)
        first, read = self.side(parameters, known)
        second, also_read = self.side(parameters, known)
        known.extend(read + also_read)
        return ("choose", first, second)

    def unlike(self, parameters):
        pairs = [(one, other) for at, one in enumerate(parameters) for other in parameters[at + 1 :]]
        pairs.extend((one, value) for one in parameters for value in INTEGERS)
        self.source.shuffle(pairs)
        return tuple(pairs[: self.source.choice((0, 0, 1, 2, 6))])

    def kind(self, name):
        parameters = tuple(self.source.sample(("a", "b", "c", "kinds"), self.source.randint(0, 4)))
        known = list(parameters)
        steps, deeds = [], 0
        for _ in range(self.source.randint(1, 8)):
            step = self.step(parameters, known)
            deeds += len(step[1]) + len(step[2]) if step[0] == "choose" else 1
            if deeds > 12:
                break
            steps.append(step)
        flags = [self.source.random() < 0.3 for _ in range(2)]
        return Kind(name, parameters, tuple(steps), self.unlike(parameters), *flags)

    def system(self):
        many = self.source.randint(1, 5)
        return System(tuple(self.kind(name) for name in self.source.sample(NAMES, many)))

    def call(self, kind):
        """A call of a kind, or None if none was found."""
        choices = tuple(self.source.randint(0, 1) for _ in kind.chooses)
        stop = self.source.choice((None, None, *kind.checks))
        for _ in range(50):
            values = dict((name, self.source.choice((0, 1, 2, 3, 7))) for name in kind.parameters)
            if all(values[one] != values.get(other, other) for one, other in kind.unlike):
                return (kind.name, tuple(values.values()), choices, stop)
        return None


class SmallMaker:
    """Makes systems that are small enough for searches over all values."""

    def __init__(self, source, parameters=2, kinds=3, steps=3):
        self.source = source
        self.most_parameters = parameters
        self.most_kinds = kinds
        self.most_steps = steps

    def deed(self, parameters):
        place = (self.source.choice("mst"), self.source.choice((*parameters, *parameters, 0, 1)))
        word = self.source.choice(("read", "add", "add", "put", "put", "raise"))
        return (word, place, "x" if word == "read" else ("sum", self.source.choice((1, 2)), ()))

    def deeds(self, parameters, most):
        return tuple(self.deed(parameters) for _ in range(self.source.randint(0, most)))

    def step(self, parameters):
        word = self.source.choice(("choose", "check", *["deed"] * 6))
        if word == "choose":
            return ("choose", self.deeds(parameters, 2), self.deeds(parameters, 1))
        return ("check", "x") if word == "check" else self.deed(parameters)

    def kind(self, name):
        source = self.source
        parameters = tuple(source.sample("abc", source.randint(0, self.most_parameters)))
        steps = tuple(self.step(parameters) for _ in range(source.randint(1, self.most_steps)))
        pairs = [(one, other) for at, one in enumerate(parameters) for other in parameters[at + 1 :]]
        pairs.extend((one, value) for one in parameters for value in (0, 1))
        source.shuffle(pairs)
        unlike = tuple(pairs[: source.choice((0, 0, 1, 2))])
        return Kind(name, parameters, steps, unlike, source.random() < 0.5, source.random() < 0.4)

    def system(self):
        names = self.source.sample(NAMES, self.source.randint(1, self.most_kinds))
        return System(tuple(self.kind(name) for name in names))


def values_for(system, fresh=4):
    """Enough values for all that calls of a small system can do: its constants, and some others."""
    return (*system.constants, *range(20, 20 + fresh))


def largest_system(alone=(), unlike=True, backs=False, check=False):
    """A system at all limits: five kinds with eight steps, twelve deeds and four parameters, twelve constants."""
    kinds = []
    for at, name in enumerate(NAMES):
        steps = [("add", ("m", "abcd"[step]), ("sum", step + at, ())) for step in range(4)]
        for step in range(4):
            first = ("read", ("m", "abcd"[step]), "x")
            steps.append(("choose", (first,), (("put", ("m", "abcd"[step - 1]), ("sum", step, ())),)))
        if check:
            # One deed less, so that a call can stop ahead of the last steps.
            steps[7] = ("check", "x")
        pairs = [("abcd"[step & 3], 3 * at + step if 3 * at + step < 12 else step) for step in range(6)]
        kinds.append(Kind(name, tuple("abcd"), tuple(steps), tuple(pairs) if unlike else (), backs, name in alone))
    return System(tuple(kinds))
