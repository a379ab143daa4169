"""The lines of the console: what they say, and how pairs are written in answers."""

from finestcuts.forms import is_name
from finestcuts.reading import read_call, read_integer

MOST_DIGITS = 300
WORDS = ("finest", "right", "engine", "crash", "store", "order")


def read_number(word):
    """The integer of at most 300 digits that is written like this, or None."""
    return read_integer(word, MOST_DIGITS)


def read_cut(word):
    """The cut that is written like this, or None."""
    name, _, rest = word.partition(":")
    position = read_number(rest)
    return (name, position) if is_name(name) and position is not None else None


def read_cuts(text):
    """The list of the cuts that are written like this, or None."""
    if text == "none":
        return []
    cuts = [read_cut(word) for word in text.split(" ")]
    return None if None in cuts else cuts


def read_rest(word, text):
    """What stands behind the first word and space of a line, or None if it may not stand there."""
    if word == "load":
        return text.replace("|", "\n")
    if word == "cut":
        return read_cuts(text)
    if word == "pairs":
        return text if is_name(text) else None
    if word in ("go", "lock"):
        return read_number(text)
    return read_call(text, read_number) if word == "begin" else None


def read_line(line):
    """The pair of the first word of a line and what stands behind it, or None for any object that is no line."""
    if type(line) is not str or "\n" in line:
        return None
    if line in WORDS:
        return (line, None)
    word, space, text = line.partition(" ")
    rest = read_rest(word, text) if space else None
    return None if rest is None else (word, rest)


def write_pairs(pairs):
    """The text of pairs of steps."""
    return " ".join([f"{first}-{last}" for first, last in pairs])
