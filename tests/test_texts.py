"""Points 2, 3 (j) and 9: the text of a system, how it is read back, and which texts are refused."""

import random
import unittest

from finestcuts.errors import CutError, ParseError
from finestcuts.kinds import Kind
from finestcuts.systems import System
from finestcuts.texts import format_system, parse_system
from making import Maker
from objects import LARGE, LONG, NAMES, RESERVED, STRANGE, Same, constant, shown

READ_X = "  read m[a] x"
PAY = """kind pay a b
  unlike a b
  unlike b -7
  backs
  read m[a] x
  check enough
  choose
    add m[b] -a + 2 * b - 5
    read s[0] y
  or
    put s[-3] 0
  end
  lower m[a] -x
end"""
LOOK = """kind look
  alone
  choose
  or
  end
  check sum
end"""
BOTH = "kind both c\n  raise m[c] 3 * c + 1\nend"
TEXT = "\n".join([PAY, LOOK, BOTH])
SYSTEM = System(
    (
        Kind(
            "pay",
            ("a", "b"),
            (
                ("read", ("m", "a"), "x"),
                ("check", "enough"),
                (
                    "choose",
                    (("add", ("m", "b"), ("sum", -5, ((-1, "a"), (2, "b")))), ("read", ("s", 0), "y")),
                    (("put", ("s", -3), constant(0)),),
                ),
                ("lower", ("m", "a"), ("sum", 0, ((-1, "x"),))),
            ),
            (("a", "b"), ("b", -7)),
            backs=True,
        ),
        Kind("look", (), (("choose", (), ()), ("check", "sum")), alone=True),
        Kind("both", ("c",), (("raise", ("m", "c"), ("sum", 1, ((3, "c"),))),)),
    )
)

SUMS = (
    (("sum", 0, ()), "0"),
    (("sum", 5, ()), "5"),
    (("sum", -5, ()), "-5"),
    (("sum", LARGE, ()), "9" * 100),
    (("sum", -LARGE, ()), "-" + "9" * 100),
    (("sum", 0, ((1, "a"),)), "a"),
    (("sum", 0, ((-1, "a"),)), "-a"),
    (("sum", 0, ((2, "a"),)), "2 * a"),
    (("sum", 0, ((-2, "a"),)), "-2 * a"),
    (("sum", 5, ((1, "a"),)), "a + 5"),
    (("sum", -5, ((1, "a"),)), "a - 5"),
    (("sum", 1, ((-1, "a"),)), "-a + 1"),
    (("sum", -1, ((-1, "a"),)), "-a - 1"),
    (("sum", 0, ((1, "a"), (1, "b"))), "a + b"),
    (("sum", 0, ((1, "a"), (-1, "b"))), "a - b"),
    (("sum", 0, ((-1, "a"), (-1, "b"))), "-a - b"),
    (("sum", 0, ((1, "a"), (2, "b"))), "a + 2 * b"),
    (("sum", 0, ((1, "a"), (-2, "b"))), "a - 2 * b"),
    (("sum", -5, ((-1, "a"), (2, "b"))), "-a + 2 * b - 5"),
    (("sum", 10, ((-10, "a"), (-10, "b"), (10, "x"))), "-10 * a - 10 * b + 10 * x + 10"),
    (("sum", -LARGE, ((LARGE, "a"), (-LARGE, "b"))), " ".join(["9" * 100, "* a -", "9" * 100, "* b -", "9" * 100])),
)


class TextTestCase(unittest.TestCase):
    def check(self, system, text):
        """The text is that of the system, and is read back to an equal one."""
        with self.subTest(text):
            found = format_system(system)
            self.assertIs(type(found), str)
            self.assertEqual(found, text)
            read = parse_system(text)
            self.assertIs(type(read), System)
            self.assertTrue(read == system)
            self.assertEqual(repr(parts_of(read)), repr(parts_of(system)))

    def check_kind(self, kind, text):
        self.check(System((kind,)), text)

    def refused(self, text):
        """A text that is none is refused, with a line that may be told."""
        with self.subTest(shown(text), size=len(text)):
            with self.assertRaises(ParseError) as caught:
                parse_system(text)
            line = caught.exception.line
            self.assertIs(type(line), int)
            self.assertTrue(0 <= line <= len(text.split("\n")), line)

    def lines_refused(self, *lines):
        """Lines in place of the steps of a kind with parameters a and b."""
        self.refused("\n".join(["kind pay a b", *lines, "end"]))

    def sum_refused(self, text):
        self.lines_refused(READ_X, "  add m[b] " + text)


def parts_of(system):
    """All that makes up the kinds of a system, and what kinds of numbers they have."""
    names = ("name", "parameters", "steps", "unlike", "backs", "alone")
    return [tuple(getattr(kind, name) for name in names) for kind in system.kinds]


def with_step(step, *ahead):
    return Kind("pay", ("a", "b"), (*ahead, step))


class TestTexts(TextTestCase):
    def test_the_example(self):
        text = "kind pay a b\n  unlike a b\n  read money[a] x\n  check enough\n  add money[a] -5\n  add money[b] 5\nend"
        system = parse_system(text)
        told = [system.names, system["pay"].deeds[1], system["pay"].checks, system["pay"].local_names]
        self.assertEqual(told, [("pay",), ("add", ("money", "a"), ("sum", -5, ())), (1,), ("x",)])
        self.assertEqual(format_system(system), text)

    def test_several_kinds(self):
        self.check(SYSTEM, TEXT)
        self.check(System(SYSTEM.kinds[::-1]), "\n".join([BOTH, LOOK, PAY]))
        for one, text in zip(SYSTEM.kinds, (PAY, LOOK, BOTH), strict=True):
            self.check_kind(one, text)

    def test_five_kinds(self):
        kinds = tuple(Kind(name, (), (("check", "x"),)) for name in NAMES[2:7])
        self.check(System(kinds), "\n".join(f"kind {name}\n  check x\nend" for name in NAMES[2:7]))

    def test_arguments_by_name(self):
        self.assertTrue(parse_system(text=format_system(system=SYSTEM)) == SYSTEM)

    def test_sums(self):
        read = ("read", ("m", "a"), "x")
        for value, text in SUMS:
            for word in ("add", "raise", "lower", "put"):
                step = (word, ("m", "b"), value)
                self.check_kind(with_step(step, read), f"kind pay a b\n{READ_X}\n  {word} m[b] {text}\nend")
                choose = ("choose", (step, step), (step,))
                line = f"    {word} m[b] {text}"
                lines = ["kind pay a b", READ_X, "  choose", line, line, "  or", line, "  end", "end"]
                self.check_kind(with_step(choose, read), "\n".join(lines))

    def test_places(self):
        for index in ("a", "b", 0, 1, -1, 10, -10, LARGE, -LARGE):
            for table in NAMES:
                text = f"kind pay a b\n  read {table}[{index}] x\n  put {table}[{index}] 1\nend"
                steps = (("read", (table, index), "x"), ("put", (table, index), constant(1)))
                self.check_kind(Kind("pay", ("a", "b"), steps), text)

    def test_checks(self):
        for word in NAMES:
            self.check_kind(with_step(("check", word)), f"kind pay a b\n  check {word}\nend")

    def test_chooses(self):
        put, line = ("put", ("m", 0), constant(1)), "    put m[0] 1"
        for first in range(4):
            for second in range(4):
                step = ("choose", (put,) * first, (put,) * second)
                lines = ["kind pay a b", "  choose", *[line] * first, "  or", *[line] * second, "  end", "end"]
                self.check_kind(with_step(step), "\n".join(lines))

    def test_heads(self):
        for parameters in ((), ("a",), ("b", "a"), ("d", "c", "b", "abcdefgh")):
            text = " ".join(["kind pay", *parameters]) + "\n  check x\nend"
            self.check_kind(Kind("pay", parameters, (("check", "x"),)), text)

    def test_flags(self):
        for backs in (False, True):
            for alone in (False, True):
                lines = ["kind pay", *["  backs"] * backs, *["  alone"] * alone, "  check x", "end"]
                self.check_kind(Kind("pay", (), (("check", "x"),), backs=backs, alone=alone), "\n".join(lines))

    def test_unlike(self):
        pairs = (("b", 7), ("a", "b"), ("a", -LARGE), ("b", 0), ("a", 7), ("b", -1))
        for many in range(7):
            lines = [f"  unlike {one} {other}" for one, other in pairs[:many]]
            text = "\n".join(["kind pay a b", *lines, "  backs", "  alone", "  check x", "end"])
            self.check_kind(Kind("pay", ("a", "b"), (("check", "x"),), pairs[:many], True, True), text)

    def test_twelve_constants(self):
        steps = [f"  put m[{at}] 1" for at in range(8)]
        pairs = [f"  unlike a {at}" for at in range(-2, 4)]
        text = "\n".join(["kind pay a", *pairs, *steps, "end", "kind look", "  put m[8] 1", "  put m[9] 1", "end"])
        self.assertEqual(parse_system(text).constants, tuple(range(-2, 10)))
        self.refused(text + "\nkind both\n  read m[10] x\nend")
        self.assertEqual(len(parse_system(text + "\nkind both\n  read m[9] x\nend")), 3)

    def test_the_same_most_whatever_the_system_had(self):
        system = System(SYSTEM.kinds, most=50)
        self.check(system, TEXT)
        other = Kind("other", ("a",), (("check", "x"),), tuple(("a", at) for at in range(6)))
        more = Kind("more", ("a",), (("check", "x"),), tuple(("a", -at) for at in range(10, 15)))
        self.assertRaises(CutError, lambda: parse_system(TEXT) + other + more)
        self.assertEqual(len((system + other + more).constants), 13)
        self.assertEqual(parse_system(TEXT).most, 12)

    def test_systems_beyond_the_limits(self):
        pairs = tuple(("a", at) for at in range(14))
        seven = System((Kind("pay", ("a",), (("check", "x"),), pairs[:7], most=7),))
        lines = [f"  unlike a {at}" for at in range(7)]
        self.assertEqual(format_system(seven), "\n".join(["kind pay a", *lines, "  check x", "end"]))
        self.refused(format_system(seven))
        kinds = [Kind(name, ("a",), (("check", "x"),), pairs[at : at + 5]) for name, at in (("x", 0), ("y", 5), ("z", 9))]
        self.refused(format_system(System(tuple(kinds), most=14)))
        self.check(System(tuple(kinds[:2])), format_system(System(tuple(kinds[:2]), most=14)))

    def test_many_systems(self):
        for seed in range(300):
            maker = Maker(random.Random(seed))
            system = maker.system()
            self.check(system, format_system(system))


class TestWrongTexts(TextTestCase):
    def test_what_is_no_string(self):
        for value in (*STRANGE, 0, 5, (), (TEXT,), [TEXT], TEXT.encode(), TEXT.split("\n"), SYSTEM, *LONG):
            if type(value) is not str:
                with self.subTest(shown(value)):
                    with self.assertRaises(ParseError) as caught:
                        parse_system(value)
                    self.assertIsNone(caught.exception.line)

    def test_empty_lines_and_texts(self):
        for text in ("", "\n", "\n\n", " ", "  ", "end", "kind", "kind ", "kind pay", "kind pay\n", "kind pay\nend"):
            self.refused(text)

    def test_line_feeds_at_ends(self):
        for text in (TEXT + "\n", "\n" + TEXT, TEXT + "\n\n", TEXT + "\n ", TEXT + "\nend", TEXT.replace("\n", "\n\n")):
            self.refused(text)
        self.refused(PAY + "\n\n" + LOOK)

    def test_a_line_less(self):
        # Without its one step the last kind has none, and without the first read none of x.
        needed = ("kind", "end", "or", "choose", "raise")
        lines = TEXT.split("\n")
        for at, line in enumerate(lines):
            rest = "\n".join(lines[:at] + lines[at + 1 :])
            if line.strip().split(" ")[0] in needed or line == READ_X:
                self.refused(rest)
            else:
                self.assertEqual(format_system(parse_system(rest)), rest)

    def test_a_line_more(self):
        lines = TEXT.split("\n")
        for more in ("", " ", "  ", "    ", "x", "  x", "end ", " end", "    end", "  or", "    or", "or", "backs", "or "):
            for at in range(len(lines) + 1):
                self.refused("\n".join([*lines[:at], more, *lines[at:]]))

    def test_each_line_twice(self):
        lines = TEXT.split("\n")
        for at, line in enumerate(lines):
            text = "\n".join([*lines[:at], line, *lines[at:]])
            if line.split(" ")[0] != "" or line.split(" ")[2] in ("unlike", "backs", "alone", "or", "choose", "end"):
                self.refused(text)
            else:
                self.assertEqual(format_system(parse_system(text)), text)

    def test_other_indentation(self):
        lines = TEXT.split("\n")
        for at, line in enumerate(lines):
            for size in range(7):
                changed = " " * size + line.lstrip(" ")
                if changed != line:
                    self.refused("\n".join([*lines[:at], changed, *lines[at + 1 :]]))
            if line.startswith(" "):
                self.refused("\n".join([*lines[:at], "\t" + line.lstrip(" "), *lines[at + 1 :]]))

    def test_spaces(self):
        for at, sign in enumerate(TEXT):
            if sign in " \n":
                self.refused(TEXT[:at] + " " + TEXT[at:])
                for other in ("\t", "\r", "\v", "\f", "\u00a0", "\u2003", "\x1f", "\u2028", "\x85", "\0", "_", ","):
                    self.refused(TEXT[:at] + other + TEXT[at + 1 :])
        self.refused(" " + TEXT)
        self.refused(TEXT + " ")
        self.refused(TEXT.replace("\n", "\r\n"))
        self.refused(TEXT.replace("\n", "\r"))

    def test_spaces_within_places_and_sums(self):
        for text in ("read m [a] x", "read m[ a] x", "read m[a ] x", "read m[a]  x", "read m[a] x ", "readm[a] x"):
            self.lines_refused("  " + text)
        for text in ("-a +b", "a+b", "a +  b", "a  + b", "2* a", "2 *a", "2*a", "2  * a", "- a", "- 5", "a -5", " a", "a "):
            self.sum_refused(text)

    def test_words_in_another_order(self):
        wrong = (
            "read x m[a]",
            "m[a] read x",
            "add 5 m[a]",
            "add [a]m 5",
            "add m(a) 5",
            "add m[a 5",
            "add ma] 5",
            "add m[[a]] 5",
            "add m[a]] 5",
            "add m[a][b] 5",
            "add m[] 5",
            "add [a] 5",
            "add m 5",
            "add m[a]",
            "add m[a] ",
            "add",
            "add ",
            "read m[a]",
            "read m[a] ",
            "read m[a] x y",
            "read m[a] 5",
            "read m[a] -x",
            "check",
            "check ",
            "check x y",
            "check 5",
            "checks x",
            "Check x",
            "READ m[a] x",
            "write m[a] 5",
            "sub m[a] 5",
            "sum 5",
        )
        for text in wrong:
            self.lines_refused("  " + text)
            self.lines_refused("  choose", "    " + text, "  or", "  end")
            self.lines_refused("  choose", "  or", "    " + text, "  end")
        self.lines_refused("  choose", "    check x", "  or", "  end")

    def test_parts_of_kinds_in_another_order(self):
        right = ["  unlike a b", "  unlike b 1", "  backs", "  alone", READ_X]
        self.assertEqual(parse_system("\n".join(["kind pay a b", *right, "end"]))["pay"].unlike, (("a", "b"), ("b", 1)))
        for one, other in ((0, 2), (0, 3), (0, 4), (1, 2), (2, 3), (2, 4), (3, 4)):
            lines = list(right)
            lines[one], lines[other] = lines[other], lines[one]
            self.lines_refused(*lines)
        self.refused("\n".join([*right[:1], "kind pay a b", *right[1:], "end"]))

    def test_chooses(self):
        put = "    put m[a] 1"
        self.lines_refused("  choose", put, "  end")
        self.lines_refused("  choose", put, "  or", put)
        self.lines_refused("  choose", put, "  or", put, "  or", put, "  end")
        self.lines_refused("  choose", put, "or", put, "  end")
        self.lines_refused("  choose", put[2:], "  or", "  end")
        self.lines_refused("  choose", "  end", "  or")
        self.lines_refused("  choose", *[put] * 4, "  or", "  end")
        self.lines_refused("  choose", "  or", *[put] * 4, "  end")
        self.lines_refused("  choose", "  choose", "  or", "  end", "  or", "  end")
        self.lines_refused("  choose", "    choose", "    or", "    end", "  or", "  end")
        self.lines_refused("  choose x", "  or", "  end")
        self.lines_refused("  or", "  end")

    def test_numbers(self):
        self.lines_refused("  check x", "  check x y")
        wrong = ("+5", "05", "-05", "00", "-0", "+0", "--5", "5-", "1_0", "_5", "5_", "0x5", "5.0", "5e0", "5,", "1 0", "b5")
        digits = ("\u0665", "\uff15", "\u00b2", "\u0967", "-\u0665", "1\u0660", "\u2212" + "5", "\U0001d7d3", "\u2460")
        long = ("1" + "0" * 100, "-1" + "0" * 100, "0" * 101, "9" * 4000, "9" * 4301, "-" + "9" * 5000, "0" * 40000)
        for number in (*wrong, *digits, *long):
            self.sum_refused(number)
            self.sum_refused("a + " + number)
            self.sum_refused("a - " + number)
            self.sum_refused(number + " * a")
            self.sum_refused("a + " + number + " * b")
            self.lines_refused(f"  add m[{number}] 1")
            self.lines_refused(f"  unlike a {number}", "  check x")
            self.lines_refused(f"  unlike a -{number}", "  check x")
        for number in ("9" * 100, "-" + "9" * 100, "-" + "1" + "0" * 99):
            text = f"kind pay a b\n  unlike a {number}\n  put m[{number}] {number}\nend"
            self.assertEqual(parse_system(text)["pay"].unlike, (("a", int(number)),))

    def test_sums(self):
        wrong = (
            "0 * a",
            "-0 * a",
            "1 * a",
            "-1 * a",
            "a + 0 * b",
            "a + 1 * b",
            "a - 1 * b",
            "b + a",
            "b - a",
            "x + a",
            "2 * b + 2 * a",
            "a + a",
            "a - a",
            "a + 2 * a",
            "a + 0",
            "a - 0",
            "-a + 0",
            "0 + a",
            "5 + a",
            "a + 5 + b",
            "5 + 5",
            "5 - 5",
            "a + 5 + 5",
            "a + 5 - 5",
            "a + -5",
            "a + -b",
            "a - -b",
            "a - -5",
            "--a",
            "+a",
            "+ a",
            "a +",
            "a -",
            "a + ",
            "a - ",
            "* a",
            " * a",
            "2 *",
            "2 * ",
            "2 * 5",
            "a * 2",
            "a * b",
            "2 * -a",
            "2 * 2 * a",
            "-2 * -a",
            "a b",
            "a 5",
            "(a)",
            "a * b + 1",
            "sum",
            "a + c",
            "y",
            "2 * m",
            "a / b",
            "A",
            "a5",
            "abcdefghi",
        )
        for text in wrong:
            self.sum_refused(text)

    def test_names(self):
        reserved = (*RESERVED, "", "abcdefghi", "A", "a1", "\u00e4", "a-b", "5")
        for name in reserved:
            self.refused(f"kind {name}\n  check x\nend")
            self.refused(f"kind pay a {name}\n  check x\nend")
            self.lines_refused(f"  check {name}")
            self.lines_refused(f"  read m[a] {name}")
            self.lines_refused(f"  read {name}[a] x")
            self.lines_refused(f"  read m[{name}] x") if name != "5" else None
            self.lines_refused(f"  unlike {name} b", "  check x")
            self.lines_refused(f"  unlike a {name}", "  check x") if name != "5" else None
            self.sum_refused(f"2 * {name}")
        self.refused("kind pay a a\n  check x\nend")
        self.refused("kind pay a b c d e\n  check x\nend")

    def test_names_that_are_not_known(self):
        for name in ("c", "y", "m", "pay", "enough"):
            self.sum_refused(name)
            self.lines_refused(f"  read m[{name}] x")
            self.lines_refused(f"  unlike a {name}", "  check x")
            self.lines_refused(f"  unlike {name} 5", "  check x")
        self.lines_refused("  add m[a] x", READ_X)
        self.lines_refused("  add m[x] 1", READ_X)
        self.lines_refused("  read m[a] a")
        self.lines_refused("  choose", "    add m[a] x", "  or", "    read m[a] x", "  end")
        self.lines_refused("  choose", "    read m[a] x", "  or", "    add m[a] x", "  end")

    def test_unlike(self):
        for pair in ("b a", "a a", "a", "", "a b a", "a b 5", "5 a", "5 5", "c 5", "a  b", "a b ", "a, b"):
            self.lines_refused(f"  unlike {pair}", "  check x")
        self.lines_refused("  unlike", "  check x")
        self.lines_refused("  unlike a b", "  unlike a b", "  check x")
        self.lines_refused(*[f"  unlike a {at}" for at in range(7)], "  check x")
        self.lines_refused("  unlike a 5")

    def test_limits_of_kinds(self):
        put = "  put m[a] 1"
        self.lines_refused()
        self.lines_refused(*[put] * 9)
        self.lines_refused(*["  check x"] * 9)
        twelve = ["  choose", *["  " + put] * 3, "  or", *["  " + put] * 3, "  end"] * 2
        self.assertEqual(len(parse_system("\n".join(["kind pay a b", *twelve, "end"]))["pay"].deeds), 12)
        self.lines_refused(*twelve, put)

    def test_limits_of_systems(self):
        texts = [f"kind {name}\n  check x\nend" for name in ("a", "b", "c", "d", "e", "f")]
        self.assertEqual(len(parse_system("\n".join(texts[:5]))), 5)
        self.refused("\n".join(texts))
        self.refused("\n".join(texts[:3] + texts[:1]))
        self.refused(PAY + "\n" + PAY)

    def test_many_lines(self):
        for many in (400, 401, 402, 5000, 100000):
            for line in ("", "  check x", "end", "kind pay"):
                self.refused("\n".join([line] * many))
            self.refused("\n".join([*["kind pay\n  check x\nend"] * 132, *["  check x"] * (many - 396)]))
            self.refused("\n".join(["kind pay", *["  check x"] * (many - 2), "end"]))
        self.refused(TEXT + "\n" * 400)

    def test_other_characters(self):
        for sign in ("\0", "\x7f", "\u00e9", "\ud800", "\U0001f600", "A", "*", "%", "[", "]", "|", "\ufeff"):
            for at in range(0, len(TEXT), 3):
                self.refused(TEXT[:at] + sign + TEXT[at:])
            self.refused(sign + TEXT)

    def test_lines_told(self):
        for text, line in (("x", 0), ("kind pay\n  check x\nend\n", 3), ("kind pay a\n  read m[b] x\n  xxx\nend", 2)):
            with self.assertRaises(ParseError) as caught:
                parse_system(text)
            self.assertEqual(caught.exception.line, line)


class TestChangedTexts(TextTestCase):
    """A text with any change is refused, or is the text of what was read."""

    def changed(self, text):
        with self.subTest(text):
            try:
                system = parse_system(text)
            except ParseError as error:
                self.assertIs(type(error.line), int)
                self.assertTrue(0 <= error.line <= len(text.split("\n")))
                return False
            self.assertEqual(format_system(system), text)
            return True

    def test_one_character(self):
        read = 0
        for at in range(len(TEXT) + 1):
            read += self.changed(TEXT[:at] + TEXT[at + 1 :])
            for sign in "ab0157-+* []\nx":
                read += self.changed(TEXT[:at] + sign + TEXT[at:])
                read += self.changed(TEXT[:at] + sign + TEXT[at + 1 :])
        self.assertGreater(read, 100)

    def test_lines_that_change_places(self):
        lines = TEXT.split("\n")
        for one in range(len(lines)):
            for other in range(one):
                moved = list(lines)
                moved[one], moved[other] = moved[other], moved[one]
                self.changed("\n".join(moved))

    def test_many_systems(self):
        source = random.Random(7)
        for _ in range(100):
            text = format_system(Maker(source).system())
            for _ in range(20):
                at = source.randrange(len(text))
                sign = source.choice(["", *" 0159-+*[]\nabxy", "end", "  check x\n", "  backs\n"])
                self.changed(text[:at] + sign + text[at + source.randint(0, 2) :])

    def test_what_equals_a_text(self):
        with self.assertRaises(ParseError) as caught:
            parse_system(Same())
        self.assertIsNone(caught.exception.line)


if __name__ == "__main__":
    unittest.main()
