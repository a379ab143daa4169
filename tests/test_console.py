"""Points 2, 46 and 47: the lines of a console and their answers."""

import random
import types
import unittest

from finestcuts.console import Console
from finestcuts.cuttings import Cutting
from finestcuts.engines import Engine
from finestcuts.errors import (
    InvalidCall,
    InvalidCuts,
    InvalidCutting,
    InvalidLine,
    NoEngine,
    NoPiece,
    NoSystem,
    ParseError,
    TooMany,
    UnknownCall,
    UnknownKind,
)
from finestcuts.finest import finest, is_right, wrong_cuts
from finestcuts.orders import order
from finestcuts.texts import format_system, parse_system
from finestcuts.ways import bad_pairs
from making import SmallMaker
from objects import LARGE, NO_NAMES, STRANGE, Posing, RaisingTestCase, shown

PAY = "kind pay a b|  unlike a b|  add m[a] -5|  add m[b] 5|end"
BOTH = "kind both c d|  read m[c] x|  read m[d] y|end"
STOP = "kind stop a|  read m[a] x|  check y|  choose|    add s[a] x|  or|  end|end"
NEEDING = ("begin pay ; 1 2 ; ; -", "go 0", "lock 0", "crash", "store", "order")
SYSTEMS = ("cut none", "cut pay:1", "finest", "right", "pairs pay", "engine")


class ConsoleTestCase(RaisingTestCase):
    def console(self, *lines):
        console = Console()
        for line in lines:
            console.answer(line)
        return console

    def answers(self, console, *pairs):
        """Each line is answered like this."""
        for line, expected in pairs:
            with self.subTest(line):
                self.assertEqual(console.answer(line), expected)

    def state(self, console):
        """What can be seen of a console, without changing anything."""
        found = []
        for line in ("right", "finest", "pairs pay", "store", "order"):
            try:
                found.append(console.answer(line))
            except LookupError as error:
                found.append(type(error))
        return found

    def is_refused(self, console, error, line, attribute=None, value=None):
        before = self.state(console)
        with self.subTest(shown(line)):
            with self.assertRaises(error) as caught:
                console.answer(line)
            self.assertIs(type(caught.exception), error)
            if attribute is not None:
                self.assertEqual(getattr(caught.exception, attribute), value)
                self.assertIs(type(getattr(caught.exception, attribute)), type(value))
            self.assertEqual(self.state(console), before)


class TestExample(ConsoleTestCase):
    def test_the_example(self):
        console = Console()
        lines = [
            "load kind pay a b|  unlike a b|  add m[a] -5|  add m[b] 5|end",
            "cut pay:1",
            "right",
            "finest",
            "engine",
        ]
        told = [console.answer(line) for line in lines]
        more = [console.answer(line) for line in ["begin pay ; 1 2 ; ; -", "go 0", "store", "go 0", "order"]]
        self.assertEqual([told, more], [["ok", "ok", "right", "pay:1", "ok"], ["0", "done", "m[1]=-5", "over", "0"]])

    def test_by_name(self):
        self.assertEqual(Console().answer(line=f"load {PAY}"), "ok")


class TestSystems(ConsoleTestCase):
    def test_load(self):
        console = Console()
        self.answers(console, (f"load {PAY}", "ok"), ("finest", "pay:1"), ("right", "right"))
        self.answers(console, (f"load {PAY}|{BOTH}", "ok"), ("finest", "none"), ("pairs both", "0-1"))
        self.answers(console, (f"load {BOTH}", "ok"), ("finest", "both:1"), ("pairs both", "none"))
        self.is_refused(console, UnknownKind, "pairs pay", "value", "pay")

    def test_texts_that_are_refused(self):
        for console in (Console(), self.console(f"load {PAY}", "cut pay:1", "engine", "begin pay ; 1 2 ; ; -", "go 0")):
            for text in (
                "",
                " ",
                "|",
                "none",
                "pay",
                f" {PAY}",
                f"{PAY} ",
                f"{PAY}|",
                f"|{PAY}",
                PAY.replace("|", "||", 1),
                PAY.replace("  add", " add", 1),
                PAY.replace("kind pay", "kind  pay"),
                PAY.replace("pay", "kind"),
                PAY.replace("-5", "-05"),
                PAY.replace("-5", "1" + "0" * 100),
                PAY.replace("-5", "1" + "0" * 300),
                PAY.replace("-5", "9" * 5000),
                PAY.replace("a b", "a a", 1),
                PAY + "|" + PAY,
                "|".join([PAY] * 6),
                PAY.replace("pay", "p\u00e4y"),
                PAY.replace("|", "\r"),
                "|" * 500,
            ):
                self.is_refused(console, ParseError, f"load {text}")
        with self.assertRaises(ParseError) as caught:
            Console().answer("load " + PAY.replace("-5", "-05"))
        self.assertEqual(caught.exception.line, 2)

    def test_cut(self):
        console = self.console(f"load {PAY}|{STOP}")
        self.answers(console, ("cut stop:2 pay:1 stop:1", "ok"), ("right", "wrong at pay:1"))
        self.answers(console, ("cut stop:2", "ok"), ("right", "right"), ("cut none", "ok"), ("right", "right"))
        self.answers(console, ("cut pay:1", "ok"), ("right", "wrong at pay:1"), ("finest", "stop:1 stop:2"))
        # These cuts stand in place of those ahead.
        self.answers(console, ("cut stop:1", "ok"), ("right", "right"), ("cut pay:1 stop:1", "ok"))
        self.answers(console, ("right", "wrong at pay:1"), (f"load {PAY}|{BOTH}|{STOP}", "ok"), ("right", "right"))
        self.answers(console, ("cut stop:1 pay:1 both:1", "ok"), ("right", "wrong at both:1 pay:1"))

    def test_cuts_that_are_none_of_the_system(self):
        console = self.console(f"load {PAY}|{STOP}", "cut stop:2 stop:1")
        for line, cuts in (
            ("cut pay:0", [("pay", 0)]),
            ("cut pay:2", [("pay", 2)]),
            ("cut pay:-1", [("pay", -1)]),
            ("cut look:1", [("look", 1)]),
            ("cut stop:2 stop:1 stop:2", [("stop", 2), ("stop", 1), ("stop", 2)]),
            ("cut pay:1 pay:1", [("pay", 1), ("pay", 1)]),
            ("cut stop:2 a:7 pay:1", [("stop", 2), ("a", 7), ("pay", 1)]),
            ("cut pay:" + "9" * 300, [("pay", 10**300 - 1)]),
            ("cut pay:-" + "9" * 300, [("pay", 1 - 10**300)]),
        ):
            self.is_refused(console, InvalidCuts, line, "value", cuts)
        console.answer("engine")
        self.is_refused(console, InvalidCuts, "cut pay:5", "value", [("pay", 5)])
        self.answers(console, ("begin pay ; 1 2 ; ; -", "0"))

    def test_pairs(self):
        text = "kind pay|  alone|  put m[0] 1|  put s[0] 1|  put m[0] 2|end|kind look|  read m[0] x|end"
        console = self.console(f"load {text}")
        self.answers(console, ("pairs pay", "0-2"), ("pairs look", "none"))
        console.answer(f"load {text.replace('look|', 'look|  read s[0] y|')}")
        self.answers(console, ("pairs pay", "0-1 0-2 1-2"), ("pairs look", "0-1"), ("finest", "none"))
        for name in ("both", "a", "zzzzzzzz", "payx"):
            self.is_refused(console, UnknownKind, f"pairs {name}", "value", name)

    def test_a_wrong_cutting_has_no_engine(self):
        console = self.console(f"load {PAY}|{BOTH}", "engine", "begin pay ; 1 2 ; ; -", "go 0")
        self.answers(console, ("store", "m[1]=-5 m[2]=5"), ("cut pay:1", "ok"))
        self.is_refused(console, NoEngine, "store")
        with self.assertRaises(InvalidCutting) as caught:
            console.answer("engine")
        system = parse_system(f"{PAY}|{BOTH}".replace("|", "\n"))
        self.assertEqual(caught.exception.value, Cutting(system, [("pay", 1)]))
        self.is_refused(console, NoEngine, "go 0")

    def test_lines_that_need_a_system_or_an_engine(self):
        console = Console()
        for line in (*SYSTEMS, *NEEDING, "cut look:5", "pairs look", "go -1", "begin look;;;9"):
            self.is_refused(console, NoSystem, line)
        for line in (
            "cut",
            "cut ",
            "pairs",
            "pairs none",
            "go",
            "go x",
            "begin",
            "begin pay",
            "lock 0 ",
            "none",
            "right ",
        ):
            self.is_refused(console, InvalidLine, line)
        self.is_refused(console, ParseError, "load ")
        self.is_refused(console, NoSystem, "right")
        console.answer(f"load {PAY}")
        for line in (*NEEDING, "go -1", "lock 7", "begin look;;;9"):
            self.is_refused(console, NoEngine, line)
        for line in ("go", "go x", "begin", "begin pay", "lock 0 ", "store ", "crash now"):
            self.is_refused(console, InvalidLine, line)
        # An engine is lost by another system or other cuts, also by the same ones.
        for line in (f"load {PAY}", "cut none", "cut pay:1"):
            console.answer("engine")
            self.answers(console, ("store", "empty"), (line, "ok"))
            self.is_refused(console, NoEngine, "store")


class TestEngines(ConsoleTestCase):
    def test_the_words(self):
        console = self.console(f"load {PAY}|{BOTH}|{STOP}", "cut stop:1 stop:2", "engine")
        self.answers(
            console,
            ("store", "empty"),
            ("order", "none"),
            ("crash", "ok"),
            ("begin both ; 1 2 ; ; -", "0"),
            ("begin pay ; 1 2 ; ; -", "1"),
            ("begin stop ; 2 ; 0 ; -", "2"),
            ("begin stop ; 1 ; 1 ; 1", "3"),
            ("begin pay ; 7 1 ; ; -", "4"),
            ("order", "0 1 2 3 4"),
            ("lock 1", "open"),
            ("lock 4", "open"),
            ("lock 0", "waits for 1 4"),
            ("lock 2", "waits for 1"),
            ("lock 3", "waits for 1 4"),
            ("go 0", "waits"),
            ("go 1", "over"),
            ("store", "m[1]=-5 m[2]=5"),
            ("lock 2", "open"),
            ("crash", "ok"),
            ("go 2", "done"),
            ("lock 2", "open"),
            ("go 2", "done"),
            ("go 2", "over"),
            ("store", "m[1]=-5 m[2]=5 s[2]=5"),
            ("go 0", "over"),
            ("go 4", "over"),
            ("store", "m[2]=5 m[7]=-5 s[2]=5"),
            ("go 3", "done"),
            ("go 3", "over"),
            ("order", "1 0 2 4 3"),
        )
        for number in (0, 1, 2, 3, 4):
            self.is_refused(console, NoPiece, f"go {number}", "number", number)
            self.is_refused(console, NoPiece, f"lock {number}", "number", number)
        for number in (5, -1, 40, 10**300 - 1):
            self.is_refused(console, UnknownCall, f"go {number}", "value", number)
            self.is_refused(console, UnknownCall, f"lock {number}", "value", number)

    def test_go_goes_on_with_taking_locks(self):
        console = self.console(f"load {PAY}|{BOTH}", "engine", "begin both ; 2 2 ; ; -", "begin pay ; 1 2 ; ; -")
        self.answers(console, ("begin both ; 1 1 ; ; -", "2"), ("lock 0", "open"), ("go 1", "waits"))
        # It has the lock of its first item now.
        self.answers(console, ("go 2", "waits"), ("lock 2", "waits for 1"), ("crash", "ok"), ("go 2", "over"))
        self.answers(console, ("go 1", "over"), ("go 0", "over"), ("order", "2 1 0"))

    def test_a_new_engine(self):
        console = self.console(f"load {PAY}", "engine", "begin pay ; 1 2 ; ; -", "go 0")
        self.answers(console, ("store", "m[1]=-5 m[2]=5"), ("engine", "ok"), ("store", "empty"), ("order", "none"))
        self.is_refused(console, UnknownCall, "go 0", "value", 0)

    def test_stores(self):
        text = "kind pay a b|  put m[a] b|  put a[b] 3 * a|  put m[0] 1|end"
        console = self.console(f"load {text}", "engine", f"begin pay ; {-LARGE} 2 ; ; -", "go 0")
        self.answers(console, ("store", f"a[2]={-3 * LARGE} m[{-LARGE}]=2 m[0]=1"))
        console = self.console(f"load {text}", "engine", "begin pay ; 11 2 ; ; -", "begin pay ; 9 -10 ; ; -")
        self.answers(console, ("go 0", "over"), ("go 1", "over"))
        self.answers(console, ("store", "a[-10]=27 a[2]=33 m[0]=1 m[9]=-10 m[11]=2"))
        # An item whose value is 0 is not told.
        self.answers(
            console, ("begin pay ; 0 2 ; ; -", "2"), ("go 2", "over"), ("store", "a[-10]=27 m[0]=1 m[9]=-10 m[11]=2")
        )

    def test_begin_with_spaces(self):
        text = "kind pay a b|  choose|  or|  end|  check x|  choose|  or|  end|end|kind none".replace("|kind none", "")
        console = self.console(f"load {text}|kind look|  read m[0] x|end", "engine")
        for number, line in enumerate(
            (
                "begin pay ; 1 2 ; 0 1 ; -",
                "begin pay;1 2;0 1;-",
                "begin  pay;1 2;0 1;1",
                "begin    pay   ;   1    2  ;  0   1 ;   -   ",
                "begin pay;1  2 ;0 1; 1",
                "begin pay ; -1 0 ; 1 1 ; 1 ",
                f"begin pay;{10**300 - 1} {1 - 10**300};0 0;-",
                "begin look;;;-",
                "begin look ; ; ; -",
                "begin look ;  ;; - ",
                "begin look    ;;    ;-",
            )
        ):
            self.answers(console, (line, str(number)))
        self.assertEqual(len(console.answer("order").split(" ")), 11)

    def test_calls_that_are_none(self):
        console = self.console(f"load {PAY}|{STOP}", "engine")
        for line, call in (
            ("begin look ; 1 ; ; -", ("look", (1,), (), None)),
            ("begin pay ; 1 1 ; ; -", ("pay", (1, 1), (), None)),
            ("begin pay ; 1 ; ; -", ("pay", (1,), (), None)),
            ("begin pay ; ; ; -", ("pay", (), (), None)),
            ("begin pay;1 2;0;-", ("pay", (1, 2), (0,), None)),
            ("begin pay;1 2;;0", ("pay", (1, 2), (), 0)),
            ("begin stop;1;2;-", ("stop", (1,), (2,), None)),
            ("begin stop;1;0;2", ("stop", (1,), (0,), 2)),
            ("begin stop;1;0;-1", ("stop", (1,), (0,), -1)),
            ("begin stop;1;;1", ("stop", (1,), (), 1)),
        ):
            self.is_refused(console, InvalidCall, line, "value", call)
        for number in range(40):
            self.answers(console, ("begin stop;1;0;1", str(number)))
        self.is_refused(console, TooMany, "begin stop;1;0;1", "limit", 40)
        self.is_refused(console, InvalidCall, "begin stop;1;2;1", "value", ("stop", (1,), (2,), 1))


class TestLines(ConsoleTestCase):
    def test_what_is_no_line(self):
        ready = self.console(f"load {PAY}", "cut pay:1", "engine", "begin pay ; 1 2 ; ; -", "go 0")
        wrong = [
            "",
            " ",
            "\n",
            "none",
            "load",
            "Load x",
            "loadkind",
            f"load\t{PAY}",
            "|",
            "cut",
            "cut ",
            "begin",
            "begin ",
        ]
        for word in ("finest", "right", "engine", "crash", "store", "order"):
            wrong.extend(
                [
                    word + " ",
                    " " + word,
                    word + "\n",
                    "\n" + word,
                    word.upper(),
                    word + " 1",
                    word[:-1],
                    word * 2,
                    word + "\r",
                ]
            )
        for line in (f"load {PAY}", "cut pay:1", "pairs pay", "go 0", "lock 0", "begin pay ; 1 2 ; ; -"):
            wrong.extend([line + "\n", "\n" + line, " " + line, line.replace(" ", "\n", 1), line.replace(" ", "\t", 1)])
            wrong.extend([line.split(" ")[0], line.replace(" ", "", 1), line.upper()])
            if not line.startswith(("load", "begin")):
                wrong.extend([line.replace(" ", "  "), line + " ", line + " x", line + "|"])
        wrong.append(f"load {PAY}".replace("|", "\n"))
        for console in (Console(), self.console(f"load {PAY}"), ready):
            for line in wrong:
                self.is_refused(console, InvalidLine, line)
            for line in (*STRANGE, 0, ("right",), ["right"], b"right", types.SimpleNamespace()):
                self.is_refused(console, InvalidLine, line)

    def test_names(self):
        console = self.console(f"load {PAY}", "cut pay:1", "engine")
        for name in NO_NAMES:
            for line in (f"pairs {name}", f"cut {name}:1", f"cut pay:1 {name}:1"):
                self.is_refused(console, InvalidLine, line)
        for name in NO_NAMES:
            # Spaces around the name have no effect here.
            if name.strip(" ") not in ("a",):
                self.is_refused(console, InvalidLine, f"begin {name} ; 1 2 ; ; -")
        self.is_refused(console, InvalidCall, "begin  a ; 1 2 ; ; -", "value", ("a", (1, 2), (), None))

    def test_cuts(self):
        console = self.console(f"load {PAY}", "cut pay:1", "engine")
        for text in (
            "pay", "pay:", ":1", "pay:1:1", "pay 1", "pay: 1", "pay :1", "pay:1,both:1", "none none", "none pay:1",
            "pay:1 none", "pay:1  both:1", "pay:1 ", " pay:1", "NONE", "none:1", "kind:1", "none ", " none", "pay;1",
        ):  # fmt: skip
            self.is_refused(console, InvalidLine, f"cut {text}")

    def test_integers(self):
        console = self.console(f"load {PAY}|{STOP}", "cut none", "engine", "begin pay ; 1 2 ; ; -")
        for number in (
            "", "-", "--1", "+1", "01", "00", "-0", "-01", "1.0", "1e1", "1_0", "0x1", "a", "1a", "\u0661", "\u00b2", "\uff11",
            "1" * 301, "-" + "1" * 301, "0" + "1" * 300, "1" * 5000, "-" + "9" * 5000, "1,2", "True", "None",
        ):  # fmt: skip
            for line in (f"go {number}", f"lock {number}", f"cut pay:{number}"):
                self.is_refused(console, InvalidLine, line)
            if number:
                for line in (f"begin stop;{number};0;-", f"begin stop;1;{number};-", f"begin stop;1 {number} 2;0;-"):
                    self.is_refused(console, InvalidLine, line)
            if number != "-":
                self.is_refused(console, InvalidLine, f"begin stop;1;0;{number}")
        for number in (10**300 - 1, 1 - 10**300, 10**299):
            self.is_refused(console, UnknownCall, f"go {number}", "value", number)
            self.is_refused(
                console, InvalidCall, f"begin pay;1 2;{number};-", "value", ("pay", (1, 2), (number,), None)
            )
            self.is_refused(console, InvalidCall, f"begin pay;1 2;;{number}", "value", ("pay", (1, 2), (), number))

    def test_begin(self):
        console = self.console(f"load {PAY}", "engine")
        for text in (
            "pay", "pay;", "pay;1 2;", "pay;1 2;;", "pay;1 2;;-;", "pay;1 2;-", "pay;;1 2;;-", ";1 2;;-", "pay pay;1 2;;-",
            "pay;1 2;;- -", "pay;1 2;;1 1", "pay;1 2;;--", "pay;1,2;;-", "pay;- 1 2;;-", "pay;1\t2;;-", "pay;1 2;;\u2003-",
            "pay;1 2;none;-", "pay;1 2;;none", "pay:1 2;;-", "Pay;1 2;;-", "none;1 2;;-", "pay|1 2||-", "pay;1 2;;-\r", "pay;(1, 2);();-",
        ):  # fmt: skip
            self.is_refused(console, InvalidLine, f"begin {text}")
        self.is_refused(console, InvalidLine, "beginpay;1 2;;-")
        self.is_refused(console, InvalidLine, "begin;pay;1 2;;-")
        self.answers(console, ("order", "none"))


class TestDrawn(ConsoleTestCase):
    """The console beside the functions and the engine that it is made of."""

    def shown_cuts(self, cuts):
        return " ".join(f"{name}:{position}" for name, position in cuts)

    def test_systems(self):
        for seed in range(60):
            source = random.Random(seed)
            system = SmallMaker(source, kinds=3).system()
            cuts = [cut for cut in Cutting.single(system) if source.random() < 0.6]
            source.shuffle(cuts)
            cutting = Cutting(system, cuts)
            console = self.console("load " + format_system(system).replace("\n", "|"))
            self.answers(console, ("cut " + (self.shown_cuts(cuts) or "none"), "ok"))
            wrong = wrong_cuts(cutting)
            self.answers(console, ("right", f"wrong at {self.shown_cuts(wrong)}" if wrong else "right"))
            self.answers(console, ("finest", self.shown_cuts(finest(system).cuts) or "none"))
            for name in system.names:
                pairs = " ".join(f"{first}-{last}" for first, last in bad_pairs(system, name))
                self.answers(console, (f"pairs {name}", pairs or "none"))
            if not is_right(cutting):
                self.is_refused(console, InvalidCutting, "engine")
                continue
            console.answer("engine")
            self.beside(source, console, Engine(cutting))

    def beside(self, source, console, engine):
        for _ in range(30):
            word = source.choice(("begin", "go", "go", "lock", "crash", "store", "order"))
            number = source.randrange(5)
            if word == "begin":
                kind = source.choice(engine.cutting.system.kinds)
                values = tuple(source.randrange(4) for _ in kind.parameters)
                choices = tuple(source.randrange(2) for _ in kind.chooses)
                stop = source.choice((None, *kind.checks))
                written = [" ".join(map(str, row)) for row in (values, choices)]
                line = f"begin {kind.name} ; {written[0]} ; {written[1]} ; {'-' if stop is None else stop}"
                try:
                    expected = str(engine.begin((kind.name, values, choices, stop)))
                except InvalidCall as error:
                    self.is_refused(console, InvalidCall, line, "value", error.value)
                    continue
            elif word in ("go", "lock"):
                line = f"{word} {number}"
                try:
                    waits = engine.lock(number)
                    expected = "waits for " + " ".join(map(str, waits)) if waits else "open"
                    if word == "go":
                        expected = "waits" if waits else "over" if engine.commit(number) else "done"
                except (UnknownCall, NoPiece) as error:
                    self.is_refused(console, type(error), line)
                    continue
            else:
                line = word
                if word == "crash":
                    engine.crash()
                store = " ".join(f"{table}[{index}]={value}" for (table, index), value in sorted(engine.store.items()))
                told = {"crash": "ok", "store": store or "empty"}
                expected = told.get(word) or " ".join(map(str, order(engine.run))) or "none"
            self.answers(console, (line, expected))

    def test_equality(self):
        lines = (f"load {PAY}", "cut pay:1", "engine", "begin pay ; 1 2 ; ; -", "lock 0", "go 0")
        for at in range(len(lines) + 1):
            one = self.console(*lines[:at])
            self.assertEqual([one == self.console(*lines[:at]), one != self.console(*lines[:at])], [True, False])
            for to in range(at):
                self.assertEqual([one == self.console(*lines[:to]), one != self.console(*lines[:to])], [False, True])
            for value in (*STRANGE, 0, Console, Posing(Console, **vars(one)), types.SimpleNamespace(**vars(one))):
                self.assertIs(one == value, False)
                self.assertIs(one != value, True)

    def test_two_consoles(self):
        one, other = self.console(f"load {PAY}", "engine"), self.console(f"load {PAY}", "engine")
        one.answer("begin pay ; 1 2 ; ; -")
        self.answers(other, ("order", "none"))
        self.is_refused(other, UnknownCall, "go 0", "value", 0)


if __name__ == "__main__":
    unittest.main()
