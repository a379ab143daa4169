"""How places, sums, deeds and calls are read, and a reader that goes through the lines of a text.

The functions that read words also take some that are not written as they should be, and put
None, or the word as it stands, in place of what they cannot read. Whoever calls them looks
at the form of what was read, and compares how it would be written with what was there.
"""

from finestcuts.deeds import is_deed
from finestcuts.errors import ParseError
from finestcuts.forms import is_name
from finestcuts.writing import write_deed


def read_integer(word, most=100):
    """The integer of at most so many digits that is written like this, or None."""
    digits = word.removeprefix("-")
    # Python refuses to read numbers of thousands of digits, hence the look at their length.
    if not 1 <= len(digits) <= most or not all(["0" <= digit <= "9" for digit in digits]):
        return None
    number = int(word)
    return number if str(number) == word else None


def read_index(word):
    """The integer that is written like this, otherwise the word."""
    number = read_integer(word)
    return word if number is None else number


def read_place(word):
    """The place that is written like this."""
    table, _, rest = word.partition("[")
    return (table, read_index(rest.removesuffix("]")))


def read_part(text):
    """A part of a sum: the pair of its factor and its name, of a constant that and None."""
    sign = -1 if text.startswith("-") else 1
    first, star, name = text.removeprefix("-").partition(" * ")
    size = read_integer(first)
    if star:
        return (None if size is None else sign * size, name)
    if size is None:
        return (sign, first)
    return (sign * size, None)


def read_sum(text):
    """The sum that is written like this."""
    parts = [read_part(part) for part in text.replace(" - ", " + -").split(" + ")]
    constant = sum([factor for factor, name in parts if name is None])
    return ("sum", constant, tuple([part for part in parts if part[1] is not None]))


def read_deed(text):
    """The deed that is written like this."""
    word, _, rest = text.partition(" ")
    place, _, last = rest.partition(" ")
    return (word, read_place(place), last if word == "read" else read_sum(last))


def read_numbers(words, read):
    """The tuple of the integers that are written like this, read being a function that reads one; or None."""
    numbers = tuple([read(word) for word in words])
    return None if None in numbers else numbers


def read_call(text, read):
    """The tuple of a name, integers, integers, and an integer or None that is written like this, or None.

    These are separated by semicolons; read is a function that reads an integer, or returns None.
    """
    parts = [[word for word in part.split(" ") if word] for part in text.split(";")]
    if len(parts) != 4 or len(parts[0]) != 1 or not is_name(parts[0][0]):
        return None
    values, choices = read_numbers(parts[1], read), read_numbers(parts[2], read)
    stops = (None,) if parts[3] == ["-"] else read_numbers(parts[3], read)
    if values is None or choices is None or stops is None or len(stops) != 1:
        return None
    return (parts[0][0], values, choices, stops[0])


class Reader:
    """Goes through the lines of a text."""

    def __init__(self, text):
        self.lines = text.split("\n")
        self.at = 0

    def has_more(self):
        """Whether a line is left."""
        return self.at < len(self.lines)

    def shown(self):
        """The next line; behind the last one an empty line, which no text of a system has."""
        return self.lines[self.at] if self.has_more() else ""

    def skip(self, line):
        """Goes on if the next line is this one; returns whether it was."""
        if self.shown() != line:
            return False
        self.at += 1
        return True

    def words_behind(self, head):
        """Goes on if the next line begins with this; returns the words behind it, otherwise None."""
        line = self.shown()
        if not line.startswith(head):
            return None
        self.at += 1
        return line.removeprefix(head).split(" ")

    def take_deed(self, indent):
        """Goes on behind a deed, which must stand in the next line, indented like this."""
        line = self.shown()
        deed = read_deed(line.removeprefix(indent))
        if not is_deed(deed) or indent + write_deed(deed) != line:
            raise ParseError(self.at)
        self.at += 1
        return deed
