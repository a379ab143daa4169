"""The lines of journals: what they tell, and how it is seen that a line is whole.

A line is a text, a stroke, and the same text once more. Whatever two such texts hold, they differ in both
halves or in length, so that one character changed, removed or inserted never makes one line of another. There
is no stroke within the text, so that no line begins with another one.

The text of each line but the first begins with its number and a digest of all lines ahead of it: what another
journal wrote, or what was written once before, is not what a journal writes next.
"""

from finestcuts.reading import read_call
from finestcuts.texts import format_system
from finestcuts.writing import write_cuts

STROKE = "/"
DIGITS = "0123456789abcdef"
BASE = 1000003
MODULUS = 2305843009213693951


def digest_of(text, digest):
    """The digest of what has a digest already and of a text behind it."""
    for letter in text:
        digest = (digest * BASE + ord(letter)) % MODULUS
    return digest


def whole_line(text):
    """The line that tells a text."""
    return text + STROKE + text


def text_of_line(line):
    """The text that a line tells, or None if it is not whole."""
    text, _, again = line.partition(STROKE)
    return text if text and text == again else None


def write_number(number):
    """The text of an integer: with base 16, as Python does not write long ones with base 10."""
    return f"{number:x}"


def write_numbers(numbers):
    """The text of integers."""
    return " ".join([write_number(number) for number in numbers])


def read_number(word):
    """The integer that is written like this, or None."""
    digits = word.removeprefix("-")
    if not digits or not all([digit in DIGITS for digit in digits]):
        return None
    number = int(word, 16)
    return number if write_number(number) == word else None


def write_items(store):
    """The text of the items of a store."""
    items = sorted(list(store.items()))
    return " ".join([f"{table}[{write_number(index)}]={write_number(worth)}" for (table, index), worth in items])


def write_start(cutting, store):
    """The text of the first line of a journal of an engine without calls."""
    system = format_system(cutting.system).replace("\n", "|")
    return f"journal ; {write_cuts(cutting.cuts)} ; {write_items(store)} ; {system}"


def write_late_start():
    """The text of the first line of a journal of an engine that had calls already."""
    return "journal"


def write_begin(call):
    """What a line tells of a call that was begun."""
    name, values, choices, stop = call
    shown = "-" if stop is None else write_number(stop)
    return f"begin {name} ; {write_numbers(values)} ; {write_numbers(choices)} ; {shown}"


def write_commit(number):
    """What a line tells of a piece of a call that was committed."""
    return f"commit {write_number(number)}"


def read_event(text):
    """A word, and what may be a call or the number of one; or None if nothing like this is written.

    Whoever asks looks at the form of what was read, and compares how it would be written with the text.
    """
    word, _, rest = text.partition(" ")
    if word == "begin":
        return (word, read_call(rest, read_number))
    return (word, read_number(rest)) if word == "commit" else None
