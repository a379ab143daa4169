"""The forms of plain values that several files look at.

Any object may come here: nothing is asked of a value before its exact class is known, so
that an object with methods of its own is never run.
"""

RESERVED = (
    "kind",
    "unlike",
    "backs",
    "alone",
    "read",
    "add",
    "raise",
    "lower",
    "put",
    "check",
    "choose",
    "or",
    "end",
    "none",
)


def is_short_integer(value):
    """Whether any value is an integer of at most 100 digits."""
    # An exponent may be at most 64, hence the product.
    return type(value) is int and abs(value) < 10**50 * 10**50


def is_name(value):
    """Whether any value is a name."""
    if type(value) is not str or not 1 <= len(value) <= 8:
        return False
    return value not in RESERVED and all(["a" <= letter <= "z" for letter in value])


def is_pair(value):
    """Whether any value is a tuple of two values."""
    return type(value) is tuple and len(value) == 2


def is_headed(value, words, size):
    """Whether any value is a tuple of this size that begins with one of the words."""
    if type(value) is not tuple or len(value) != size:
        return False
    head = value[0]
    return type(head) is str and head in words


def are_different_names(values):
    """Whether all of a list or tuple of any values are names, none of them twice."""
    return all([is_name(value) for value in values]) and len(set(values)) == len(values)


def is_number(value, many):
    """Whether any value is an integer from 0 to one less than so many."""
    return type(value) is int and 0 <= value < many
