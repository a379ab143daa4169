"""The text of a system: writing it, and reading it back."""

from finestcuts.errors import InvalidKind, InvalidKinds, ParseError
from finestcuts.kinds import Kind
from finestcuts.reading import Reader, read_index
from finestcuts.systems import System
from finestcuts.writing import write_deed

MOST_LINES = 400


def deed_lines(deeds, indent):
    """The lines of deeds, indented like this."""
    return [indent + write_deed(deed) for deed in deeds]


def step_lines(step):
    """The lines of a step."""
    if step[0] == "check":
        return [f"  check {step[1]}"]
    if step[0] == "choose":
        _, first, second = step
        return ["  choose", *deed_lines(first, "    "), "  or", *deed_lines(second, "    "), "  end"]
    return deed_lines((step,), "  ")


def kind_lines(kind):
    """The lines of a kind."""
    lines = [" ".join(["kind", kind.name, *kind.parameters])]
    lines.extend([f"  unlike {one} {other}" for one, other in kind.unlike])
    if kind.backs:
        lines.append("  backs")
    if kind.alone:
        lines.append("  alone")
    for step in kind.steps:
        lines.extend(step_lines(step))
    return [*lines, "end"]


def format_system(system):
    """The text of a system."""
    return "\n".join([line for kind in system.kinds for line in kind_lines(kind)])


def read_head(reader):
    """The name and the parameters of a kind."""
    words = reader.words_behind("kind ")
    if words is None:
        raise ParseError(reader.at)
    return (words[0], tuple(words[1:]))


def read_unlike(reader):
    """The pairs of what is unlike."""
    pairs = []
    while (words := reader.words_behind("  unlike ")) is not None:
        one, *others = words
        pairs.append((one, *[read_index(word) for word in others]))
    return tuple(pairs)


def read_deeds(reader, line):
    """The deeds of a tuple of a choose, which ends with this line."""
    deeds = []
    while not reader.skip(line):
        deeds.append(reader.take_deed("    "))
    return tuple(deeds)


def read_step(reader):
    """A step."""
    if reader.skip("  choose"):
        first = read_deeds(reader, "  or")
        return ("choose", first, read_deeds(reader, "  end"))
    words = reader.words_behind("  check ")
    if words is not None:
        return ("check", *words)
    return reader.take_deed("  ")


def read_steps(reader):
    """The steps of a kind, up to its end."""
    steps = []
    while not reader.skip("end"):
        steps.append(read_step(reader))
    return tuple(steps)


def read_kind(reader):
    """A kind."""
    start = reader.at
    name, parameters = read_head(reader)
    unlike = read_unlike(reader)
    backs = reader.skip("  backs")
    alone = reader.skip("  alone")
    steps = read_steps(reader)
    try:
        return Kind(name, parameters, steps, unlike, backs, alone)
    except InvalidKind:
        raise ParseError(start) from None


def parse_system(text):
    """The system with this text."""
    if type(text) is not str:
        raise ParseError(None)
    if text.count("\n") >= MOST_LINES:
        raise ParseError(MOST_LINES)
    reader = Reader(text)
    kinds = []
    while reader.has_more():
        kinds.append(read_kind(reader))
    try:
        return System(tuple(kinds))
    except InvalidKinds:
        raise ParseError(reader.at) from None
