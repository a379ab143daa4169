"""Objects that callers may hand in where an error is listed, and what else the tests share."""

import unittest


class Same:
    """Says that it equals everything, and hides in sets and dicts behind a text."""

    def __eq__(self, other):
        return True

    def __ne__(self, other):
        return False

    def __hash__(self):
        return hash("a")


class Broken:
    """Fails as soon as it is asked for anything."""

    def __getattribute__(self, name):
        raise ArithmeticError(name)

    def __fail(self, *rest):
        raise ArithmeticError()

    __eq__ = __ne__ = __lt__ = __gt__ = __le__ = __ge__ = __hash__ = __fail
    __bool__ = __len__ = __iter__ = __contains__ = __getitem__ = __fail
    __int__ = __index__ = __abs__ = __neg__ = __repr__ = __str__ = __fail


class Posing:
    """Says that it is of another class, and looks like an object of it."""

    def __init__(self, shown, **more):
        self.shown = shown
        self.__dict__.update(more)

    @property
    def __class__(self):
        return self.shown


# No integers, texts, tuples: nothing that has any form of the document.
STRANGE = (
    None,
    True,
    False,
    0.0,
    1.5,
    2j,
    b"a",
    bytearray(b"a"),
    [],
    ["read", ("m", "a"), "x"],
    {},
    {"a": 1},
    set(),
    frozenset(("a",)),
    range(3),
    object(),
    int,
    len,
    Same(),
    Broken(),
    Posing(int),
    Posing(str),
    Posing(tuple),
)

RESERVED = "kind unlike backs alone read add raise lower put check choose or end none".split()

NAMES = ("a", "z", "pay", "sum", "abcdefgh", "zzzzzzzz", "kinds", "rea", "ands", "true", "chec")

NO_NAMES = (
    "",
    "abcdefghi",
    "a" * 50000,
    "A",
    "aB",
    "a1",
    "1",
    "a_b",
    "_a",
    "a b",
    " a",
    "a ",
    "a\n",
    "\n",
    "a-b",
    "a[b]",
    "`",
    "{",
    "\u00e4",
    "a\u00df",
    "\u0430",
    "\uff41",
    "\ud800",
    "\0",
    *RESERVED,
)

LARGE = 10**100 - 1
TOO_LARGE = 10**100
SHORT = (0, 1, -1, 7, LARGE, -LARGE)
LONG = (TOO_LARGE, -TOO_LARGE, TOO_LARGE + 1, 10**3999)


def constant(value):
    """A sum without terms."""
    return ("sum", value, ())


def shown(value):
    """A short text for any value, which asks nothing of an object that may fail."""
    if type(value) in (tuple, list):
        return type(value).__name__ + "(" + ", ".join([shown(part) for part in value[:9]]) + ")"
    if type(value) is str:
        return ascii(value[:20])
    if type(value) is int:
        return hex(value)[:20]
    return type(value).__name__


class RaisingTestCase(unittest.TestCase):
    """Looks at errors and at what they keep."""

    def raises(self, error, value, function, *arguments, attribute="value"):
        with self.subTest(getattr(function, "__name__", ""), value=shown(value)):
            with self.assertRaises(error) as caught:
                function(*arguments)
            self.assertIs(type(caught.exception), error)
            self.assertIs(getattr(caught.exception, attribute), value)
