"""Points 2, 43 and 44: journals of engines, and what is recovered from their texts."""

import random
import time
import types
import unittest

from finestcuts.cuttings import Cutting
from finestcuts.engines import Engine
from finestcuts.errors import (
    InvalidCall,
    InvalidCutting,
    InvalidStore,
    InvalidText,
    NoPiece,
    NotOpen,
    StillOpen,
    TooMany,
    UnknownCall,
)
from finestcuts.finest import finest
from finestcuts.journal import Journal, recover, resume
from finestcuts.kinds import Kind
from finestcuts.lines import whole_line
from finestcuts.systems import System
from finestcuts.texts import format_system, parse_system
from making import Maker, largest_system
from objects import LARGE, STRANGE, Broken, Posing, RaisingTestCase, Same, shown

SYSTEM = parse_system(
    """kind pay a b
  unlike a b
  put seen[a] 1
  add m[a] -5
  add m[b] 5
end
kind look c
  read m[c] x
  choose
    put log[c] x
  or
  end
  check y
end
kind one
  alone
  choose
  or
    put t[0] 1
  end
  put t[1] 2
end"""
)
CUTTING = Cutting(SYSTEM, [("pay", 1), ("one", 1)])
STORE = {("m", 1): 9, ("seen", 2): -4}
PAY = ("pay", (1, 2), (), None)
LOOK = ("look", (-7,), (0,), None)
ONE = ("one", (), (0,), None)
GREAT = 10**4000 - 1


def told(engine):
    return (engine.store, engine.marks, engine.run.calls, engine.run.row, engine.locks)


class JournalTestCase(RaisingTestCase):
    def journal(self, *moves, cutting=CUTTING, store=None):
        """A journal in which these calls were begun and these numbers were committed."""
        journal = Journal(Engine(cutting, STORE if store is None else store))
        for move in moves:
            if type(move) is int:
                journal.commit(move)
            else:
                journal.begin(move)
        return journal

    def recovers(self, journal, text, cutting=CUTTING, store=None):
        """From a text, just the engine of a journal is recovered."""
        found = recover(cutting, STORE if store is None else store, text)
        self.assertIs(type(found), Engine)
        self.assertEqual(told(found), told(journal.engine()))
        self.assertIs(found == journal.engine(), True)
        self.assertEqual(found.locks, [])
        again = resume(cutting, STORE if store is None else store, text)
        self.assertIs(type(again), Journal)
        self.assertEqual(again.text(), journal.text())
        self.assertIs(again.engine() == found, True)

    def all_journals(self, *moves, **more):
        """The journals of all beginnings of these moves, from none to all of them."""
        return [self.journal(*moves[:many], **more) for many in range(len(moves) + 1)]

    def lines(self, journal):
        return journal.text().split("\n")[:-1]


MOVES = (PAY, LOOK, 0, ONE, 1, ("pay", (2, LARGE), (), None), 2, 3, 0, 2, ("look", (0,), (1,), 2), 4, 3)


class TestExample(JournalTestCase):
    def test_the_example(self):
        cutting = Cutting.whole(parse_system("kind pay a b\n  unlike a b\n  add m[a] -5\n  add m[b] 5\nend"))
        journal = Journal(Engine(cutting, {("m", 1): 9}))
        self.assertEqual([journal.begin(("pay", (1, 2), (), None)), journal.commit(0)], [0, True])
        text = journal.text()
        found = [recover(cutting, {("m", 1): 9}, text[:cut]).store for cut in (0, len(text) - 1, len(text))]
        self.assertEqual(found, [{("m", 1): 9}, {("m", 1): 9}, {("m", 1): 4, ("m", 2): 5}])

    def test_by_name(self):
        journal = Journal(engine=Engine(CUTTING, STORE))
        self.assertEqual(journal.begin(call=PAY), 0)
        self.assertIs(journal.commit(number=0), False)
        text = journal.text()
        self.assertEqual(recover(text=text, store=STORE, cutting=CUTTING), journal.engine())
        self.assertEqual(resume(text=text, store=STORE, cutting=CUTTING).text(), text)


class TestJournals(JournalTestCase):
    def test_beside_an_engine_that_does_the_same(self):
        engine, journal = Engine(CUTTING, STORE), Journal(Engine(CUTTING, STORE))
        for move in MOVES:
            if type(move) is int:
                self.assertIs(journal.commit(move), (engine.lock(move), engine.commit(move))[1])
            else:
                self.assertEqual(journal.begin(move), engine.begin(move))
            self.assertIs(journal.engine() == engine, True)
            self.assertEqual(told(journal.engine()), told(engine))
        self.assertIsNone(journal.finish())
        engine.finish()
        self.assertIs(journal.engine() == engine, True)
        self.assertIs(journal.engine().is_over, True)

    def test_the_errors_of_the_engine(self):
        journal = self.journal(PAY, LOOK, 0, 0, ONE, ONE, 2)
        text, before = journal.text(), journal.engine()
        for number in (*STRANGE, 4, -1, "0", (0,), True, False, Same(), Broken()):
            self.raises(UnknownCall, number, journal.commit, number)
        self.raises(NoPiece, 0, journal.commit, 0, attribute="number")
        self.raises(NotOpen, 3, journal.commit, 3, attribute="number")
        for call in (*STRANGE, 0, PAY[:3], list(PAY), ("pay", (1, 1), (), None), ("look", (1,), (), None)):
            self.raises(InvalidCall, call, journal.begin, call)
        self.assertEqual(journal.text(), text)
        self.assertIs(journal.engine() == before, True)
        for _ in range(36):
            journal.begin(LOOK)
        text = journal.text()
        with self.assertRaises(TooMany) as caught:
            journal.begin(LOOK)
        self.assertEqual((caught.exception.limit, journal.text()), (40, text))
        self.recovers(journal, text)
        self.raises(InvalidCall, None, journal.begin, None)

    def test_the_engine_that_it_was_made_of(self):
        engine = Engine(CUTTING, STORE)
        engine.begin(PAY)
        engine >>= 0
        journal, before = Journal(engine), told(engine)
        journal.begin(LOOK)
        journal.finish()
        self.assertEqual(told(engine), before)
        other = Journal(engine)
        engine.finish()
        self.assertEqual(told(other.engine()), before)
        # What is told is a copy.
        found = journal.engine()
        found.begin(LOOK)
        self.assertEqual(len(journal.engine().marks), 2)
        self.assertIsNot(journal.engine(), journal.engine())

    def test_one_that_holds_locks(self):
        engine = Engine(CUTTING, STORE)
        for call in (PAY, LOOK, ONE, ("pay", (5, 6), (), None)):
            engine.begin(call)
        engine.lock(3)
        self.raises(StillOpen, 3, Journal, engine, attribute="number")
        engine.lock(1)
        self.raises(StillOpen, 1, Journal, engine, attribute="number")
        engine.leave(1)
        # A piece without deeds needs no locks.
        self.assertEqual(engine.lock(2), ())
        self.raises(StillOpen, 3, Journal, engine, attribute="number")
        engine.leave(3)
        self.assertEqual(told(Journal(engine).engine()), told(engine))
        engine.lock(0)
        self.raises(StillOpen, 0, Journal, engine, attribute="number")
        engine.crash()
        Journal(engine).finish()

    def test_lines(self):
        journal = self.journal()
        before = [journal.text()]
        for move in MOVES:
            if type(move) is int:
                journal.commit(move)
            else:
                journal.begin(move)
            before.append(journal.text())
        # A first line, and one for each call and piece; what was written stays.
        for many, text in enumerate(before, start=1):
            lines = text.split("\n")
            self.assertEqual([len(lines), lines[-1]], [many + 1, ""])
            self.assertTrue(all(lines[:-1]))
            self.assertNotIn(lines[0], lines[1:])
            self.assertTrue(before[-1].startswith(text))
        count = len(self.lines(journal))
        left = sum(journal.engine().run.left(number) for number in range(5))
        journal.finish()
        self.assertEqual(len(self.lines(journal)), count + left)
        self.recovers(journal, journal.text())
        self.assertEqual(self.journal(*MOVES).text(), before[-1])

    def test_finish_writes_as_commit_does(self):
        one, other = self.journal(*MOVES[:6]), self.journal(*MOVES[:6])
        one.finish()
        engine = other.engine()
        while engine.able():
            other.commit(engine.able()[0])
            engine = other.engine()
        self.assertEqual(one.text(), other.text())
        one.finish()
        self.assertEqual(one.text(), other.text())


class TestRecovered(JournalTestCase):
    def test_torn_at_every_place(self):
        journals = self.all_journals(*MOVES)
        texts = [journal.text() for journal in journals]
        text = texts[-1]
        at = 0
        for cut in range(len(text) + 1):
            if at + 1 < len(texts) and cut >= len(texts[at + 1]):
                at += 1
            found = recover(CUTTING, STORE, text[:cut])
            self.assertEqual(found.run.row, journals[at].engine().run.row)
            self.assertEqual(found.run.calls, journals[at].engine().run.calls)
            if cut in map(len, texts) or cut - 1 in map(len, texts) or cut + 1 in map(len, texts):
                self.recovers(journals[at], text[:cut])

    def changed(self, text, start, end):
        """All texts in which one character from here to there is changed, taken out, doubled or put in."""
        letters = "\n /|;-=019ak:\r\0\u2028"
        for at in range(start, end):
            yield at, text[:at] + text[at + 1 :]
            yield at, text[:at] + text[at] + text[at:]
            for letter in letters:
                if letter != text[at]:
                    yield at, text[:at] + letter + text[at + 1 :]
                    # Behind the last character of a line, a line feed more leaves the line whole.
                    yield at, text[:at] + letter + text[at:]

    def test_one_character(self):
        """A line with one character changed is not whole: just the lines ahead of it are followed."""
        cutting = Cutting(parse_system("kind a b\n  add m[b] 1\n  read m[b] x\nend"), [])
        moves = (("a", (1,), (), None), 0, ("a", (-20,), (), None), ("a", (1,), (), None), 2, 1)
        journals = self.all_journals(*moves, cutting=cutting, store={("m", 1): 5})
        text, start = journals[-1].text(), 0
        nothing = journals[0].engine()
        for number, journal in enumerate(journals):
            end = len(journal.text())
            expected = journals[max(number - 1, 0)].engine()
            whole = journal.engine()
            for at, wrong in self.changed(text, start, end):
                found = recover(cutting, {("m", 1): 5}, wrong)
                if wrong.startswith(journal.text()):
                    # The line itself is as it was, with a line feed more behind it, or something in the next line.
                    self.assertIs(found == whole, True, (at, wrong))
                else:
                    self.assertIs(found == (expected if number else nothing), True, (number, at, wrong))
            start = end

    def test_one_character_against_all_journals(self):
        """A line that differs by one character is whole for no other cutting, store or call either."""
        stores = [{("m", 1): value} for value in (1, 2, 11, 12, 21, 111, -1)]
        stores.extend([{("m", 1): 1, ("m", 2): 1}, {("n", 1): 1}, {("mm", 1): 1}, {("m", 11): 1}, {}])
        cuttings = [Cutting(SYSTEM, cuts) for cuts in ([], [("pay", 1)], [("one", 1)], CUTTING.cuts)]
        cuttings.append(Cutting.whole(parse_system(format_system(SYSTEM).replace("-5", "-6"))))
        cuttings.append(Cutting.whole(parse_system(format_system(SYSTEM).replace("-5", "-55"))))
        firsts = {}
        for cutting in cuttings:
            for store in stores:
                journal = self.journal(PAY, cutting=cutting, store=store)
                firsts[self.lines(journal)[0]] = (cutting, store)
                for other in cuttings:
                    for more in stores:
                        expected = 1 if (other, more) == (cutting, store) else 0
                        self.assertEqual(len(recover(other, more, journal.text()).marks), expected)
        self.assertEqual(len(firsts), len(cuttings) * len(stores))
        lines = list(firsts)
        for _ in range(8):
            source = random.Random(_)
            calls = [("pay", (source.randint(-12, 12), source.randint(13, 30)), (), None) for _ in range(6)]
            lines.extend(self.lines(self.journal(*calls, *range(6), 0)))
        self.assertEqual(len(set(lines)), len(lines) - 7)
        near = {}
        for line in sorted(set(lines)):
            for at in range(len(line)):
                near.setdefault(line[:at] + line[at + 1 :], set()).add(line)
                near.setdefault(line[:at] + "\0" + line[at + 1 :], set()).add(line)
            near.setdefault(line, set()).add(line)
        # Two lines with one character changed, removed or inserted would meet here.
        self.assertEqual([group for group in near.values() if len(group) > 1], [])
        # No line begins with another one, so that a line feed within it leaves nothing whole.
        ordered = sorted(set(lines))
        self.assertEqual([one for one, other in zip(ordered, ordered[1:]) if other.startswith(one)], [])

    def test_lines_behind(self):
        journal = self.journal(*MOVES)
        text, lines = journal.text(), self.lines(journal)
        behind = [line + "\n" for line in lines]
        others = [self.journal(*MOVES, store={("m", 1): 10}), self.journal(*MOVES, LOOK, store={("m", 2): 9})]
        whole = Cutting.whole(SYSTEM)
        others.append(self.journal(PAY, PAY, PAY, PAY, PAY, 0, 1, 2, 3, 4, LOOK, 5, PAY, 6, LOOK, 7, cutting=whole))
        others.append(self.journal(*[LOOK] * 20, *range(20)))
        for other in others:
            behind.extend([other.text(), *[line + "\n" for line in self.lines(other)]])
            behind.append("".join([line + "\n" for line in self.lines(other)[len(lines) :]]))
            behind.append("".join([line + "\n" for line in self.lines(other)[1:]]))
        behind.extend(
            [text, text[len(lines[0]) + 1 :], "\n", "\n\n", "a", "a\n", "/\n", " ", "\r\n", "\0", "0\n", "9" * 5000]
        )
        for more in behind:
            self.recovers(journal, text + more)
            self.recovers(journal, text + more * 2)
            self.recovers(journal, text + "\n" + more)
        # Also where the journal could write just this call or piece once more.
        journal = self.journal(LOOK, PAY, PAY, 1)
        for line in self.lines(journal):
            self.recovers(journal, journal.text() + line + "\n")

    def test_texts_that_begin_otherwise(self):
        journal, nothing = self.journal(*MOVES), self.journal()
        text, lines = journal.text(), self.lines(journal)
        for wrong in (
            "",
            "\n",
            "\n" + text,
            " " + text,
            text[1:],
            text[len(lines[0]) + 1 :],
            lines[1] + "\n" + text,
            "a\n" + text,
        ):
            self.recovers(nothing, wrong)
        for wrong in (
            lines[0],
            lines[0] + " \n",
            lines[0][: len(lines[0]) // 2] + "\n",
            lines[0] * 2 + "\n",
            text.upper(),
        ):
            self.recovers(nothing, wrong)
        for cutting, store in ((Cutting.whole(SYSTEM), STORE), (CUTTING, {}), (CUTTING, {**STORE, ("m", 2): 1})):
            found = recover(cutting, store, text)
            self.assertIs(found == Engine(cutting, store), True)
            self.assertEqual(resume(cutting, store, text).text(), Journal(Engine(cutting, store)).text())

    def test_forged_lines(self):
        """Whole lines with the right number and digest that no journal writes next."""
        journal = self.journal(PAY, 0, ("pay", (3, 4), (), None), 1, 1, ONE, ONE, 2)
        text = journal.text()
        self.assertEqual(self.forged(journal, "commit 0").engine().run.row, (0, 1, 1, 2, 0))
        self.assertEqual(len(self.forged(journal, "begin look ; -a ; 1 ; 2").engine().marks), 5)
        for event in (
            "", " ", "commit", "commit ", "commit 1", "commit 3", "commit 4", "commit -1", "commit 00", "commit  0", "commit 0 ",
            "commit 0x0", "commit g", "commit -", "commit None", "commit 0;", "Commit 0", "lock 0", "crash", "finish", "0",
            "begin", "begin ", "begin pay", "begin pay ; 1 2 ; ; -", "begin pay ; 1 1 ;  ; -", "begin pay ; 1 ;  ; -",
            "begin pay ; 1 2 ;  ;  -", "begin pay;1 2;;-", "begin pay ; 1  2 ;  ; -", "begin pay ; 1 A ;  ; -",
            "begin pay ; 1 0x2 ;  ; -", "begin pay ; 1 02 ;  ; -", "begin pay ; 1 zz ;  ; -", "begin pay ; 1 2 ;  ; 0",
            "begin pay ; 1 2 ; 0 ; -", "begin none ;  ;  ; -", "begin kind ; 1 2 ;  ; -", "begin look ; 1 ; 2 ; -",
            "begin look ; 1 ; 0 ; 1", "begin look ; 1 ; 0 ; g", "begin look ; 1 ; 0 ; - -", "begin look ; 1 ; 0 ; ", "begin look ; 1_0 ; 0 ; -",
            "begin look ; 1 ; 0 ; -\r", "begin look ; \u0661 ; 0 ; -", "begin look ; 1 ; 0 ; - ; -", "begin look ; - ; 0 ; -", "\0",
        ):  # fmt: skip
            found = self.forged(journal, event)
            self.assertEqual(found.text(), text, event)
            self.assertIs(found == journal, True)
        journal = self.journal(*[LOOK] * 40)
        for event in ("begin look ; 1 ; 0 ; -", "begin look ; -7 ; 0 ; -"):
            self.assertIs(self.forged(journal, event) == journal, True)
            self.assertIs(self.forged(self.journal(*[LOOK] * 39), event) == self.journal(*[LOOK] * 39), False)

    def forged(self, journal, event):
        """What goes on from the text of a journal with one more line, which tells this."""
        line = whole_line(journal.next_text(event))
        for head in (str(len(journal.lines) + 1), "0", ""):
            wrong = whole_line(f"{head} {journal.digest} {event}")
            self.assertIs(resume(CUTTING, STORE, journal.text() + wrong + "\n") == journal, True)
        wrong = whole_line(f"{len(journal.lines)} {journal.digest + 1} {event}")
        self.assertIs(resume(CUTTING, STORE, journal.text() + wrong + "\n") == journal, True)
        return resume(CUTTING, STORE, journal.text() + line + "\n")

    def test_stores_that_are_the_same(self):
        journal = self.journal(*MOVES)
        for store in ({**STORE, ("m", 3): 0}, dict(reversed(STORE.items()))):
            self.recovers(journal, journal.text(), store=store)
            self.assertEqual(self.journal(*MOVES, store=store).text(), journal.text())
        wide = Cutting(System(SYSTEM.kinds, 20), CUTTING.cuts)
        self.recovers(journal, journal.text(), wide)

    def test_engines_that_had_calls(self):
        for many in (1, 2, 4, len(MOVES)):
            engine = self.journal(*MOVES[:many]).engine()
            journal = Journal(engine)
            journal.begin(LOOK)
            journal.finish()
            self.assertEqual(len(self.lines(journal)), 2 + len(journal.engine().run.row) - len(engine.run.row))
            for store in (STORE, engine.store, {}):
                found = recover(CUTTING, store, journal.text())
                self.assertIs(found == Engine(CUTTING, store), True)
                self.assertEqual(resume(CUTTING, store, journal.text()).text(), Journal(Engine(CUTTING, store)).text())
            # Its first line is none that another journal goes on with, either.
            for other in self.all_journals(*MOVES[:3]):
                self.recovers(other, other.text() + journal.text())

    def test_resumed_and_torn_again(self):
        first = self.journal(*MOVES[:7])
        text = first.text()
        for cut in (len(text), len(text) - 1, len(text) - len(self.lines(first)[-1]) - 1):
            journal = resume(CUTTING, STORE, text[:cut])
            begun = len(self.lines(journal))
            self.assertTrue(text.startswith(journal.text()))
            for call in (LOOK, ("pay", (8, 9), (), None)):
                journal.begin(call)
            journal.finish()
            more = journal.text()
            self.recovers(journal, more)
            lines = self.lines(journal)
            self.assertEqual(lines[:begun], self.lines(first)[:begun])
            for many in range(begun, len(lines) + 1):
                whole = "".join([line + "\n" for line in lines[:many]])
                found = recover(CUTTING, STORE, whole)
                self.assertEqual(resume(CUTTING, STORE, whole).text(), whole)
                for torn in (1, 2, len(lines[many - 1]) // 2, len(lines[many - 1])):
                    cut_off = resume(CUTTING, STORE, whole[:-torn])
                    self.assertEqual(cut_off.text(), "".join([line + "\n" for line in lines[: many - 1]]))
                self.assertEqual(found.run.calls, journal.engine().run.calls[: len(found.run.calls)])
        # A journal that goes on is written as one that never stopped.
        again = resume(CUTTING, STORE, text)
        for move in MOVES[7:]:
            again.commit(move) if type(move) is int else again.begin(move)
        self.assertEqual(again.text(), self.journal(*MOVES).text())

    def test_the_greatest_numbers(self):
        store = {("m", GREAT): GREAT, ("m", -GREAT): -GREAT, ("m", 0): LARGE}
        journal = self.journal(("pay", (GREAT, -GREAT), (), None), 0, ("look", (-GREAT,), (0,), None), 1, store=store)
        self.assertEqual(journal.engine().marks[1][1], {"x": -GREAT})
        self.recovers(journal, journal.text(), store=store)
        for cut in (1, 100, 5000):
            found = recover(CUTTING, store, journal.text()[:-cut])
            self.assertEqual(found.run.row, (0,))

    def test_results_of_the_program_of_any_size(self):
        """Python does not write or read numbers of more than 4300 digits with base 10."""
        system = parse_system(f"kind pay a\n  read m[0] x\n  put m[0] {LARGE} * x\nend")
        cutting = Cutting.whole(system)
        engine = Engine(cutting, {("m", 0): GREAT})
        for number in range(6):
            engine.begin(("pay", (number,), (), None))
        engine.finish()
        store = engine.store
        self.assertGreater(store[("m", 0)], 10**4500)
        journal = Journal(Engine(cutting, store))
        journal.begin(("pay", (-store[("m", 0)],), (), None))
        journal.finish()
        self.recovers(journal, journal.text(), cutting, store)
        found = recover(cutting, store, journal.text()[:-1])
        self.assertEqual([len(found.marks), found.run.row], [1, ()])
        self.assertIs(recover(cutting, {}, journal.text()) == Engine(cutting), True)
        late = Journal(engine)
        late.finish()
        self.assertIs(recover(cutting, store, late.text()) == Engine(cutting, store), True)

    def test_equality(self):
        one = self.journal(*MOVES)
        self.assertIs(one == resume(CUTTING, STORE, one.text()), True)
        self.assertIs(one != resume(CUTTING, STORE, one.text()), False)
        self.assertIs(resume(CUTTING, STORE, "") == self.journal(), True)
        late = Journal(one.engine())
        look = {"kept": one.engine(), "lines": self.lines(one)}
        for other in (
            self.journal(*MOVES[:-1]),
            self.journal(),
            late,
            self.journal(*MOVES, store={}),
            *STRANGE,
            0,
            Journal,
        ):
            self.assertIs(one == other, False)
            self.assertIs(one != other, True)
        self.assertIs(late == Journal(self.journal(*MOVES[:3]).engine()), False)
        for other in (
            one.engine(),
            one.text(),
            Posing(Journal, **look),
            types.SimpleNamespace(**look),
            Same(),
            Broken(),
        ):
            self.assertIs(one == other, False)

    def test_drawn_journals(self):
        lines = 0
        for seed in range(25):
            source = random.Random(seed)
            maker = Maker(source)
            system = System(maker.system().kinds, 100)
            cutting = finest(system)
            store = {(table, index): source.choice((-3, 0, 5)) for table in "mst" for index in range(5)}
            journals = [Journal(Engine(cutting, store))]
            for _ in range(12):
                journal = resume(cutting, store, journals[-1].text())
                able = journal.engine().able()
                if able and source.random() < 0.6:
                    journal.commit(source.choice(able))
                else:
                    call = maker.call(source.choice(system.kinds))
                    if call is None:
                        continue
                    journal.begin(call)
                journals.append(journal)
            lines += len(journals)
            text = journals[-1].text()
            for journal in journals:
                cut = len(journal.text())
                self.recovers(journal, text[:cut], cutting, store)
                torn = text[cut:].partition("\n")[0]
                self.recovers(journal, text[:cut] + torn[: source.randint(0, len(torn))], cutting, store)
        self.assertGreater(lines, 200)

    def test_in_a_short_time(self):
        begun = time.monotonic()
        system = largest_system(check=True)
        cutting = finest(system)
        store = {("m", at): LARGE for at in range(40)}
        journal = Journal(Engine(cutting, store))
        for at in range(40):
            kind = system.kinds[at // 8]
            journal.begin((kind.name, tuple(range(20 + at, 24 + at)), (1,) * len(kind.chooses), None))
        journal.finish()
        self.recovers(journal, journal.text(), cutting, store)
        adds = tuple(("add", (table, "a"), ("sum", 1, ())) for table in "abcdefgh")
        cutting = Cutting.single(System((Kind("pay", ("a",), adds),)))
        journal = Journal(Engine(cutting, store))
        for at in range(40):
            journal.begin(("pay", (at,), (), None))
        journal.finish()
        self.assertEqual(len(self.lines(journal)), 1 + 40 + 320)
        self.recovers(journal, journal.text(), cutting, store)
        self.assertLess(time.monotonic() - begun, 20)


class TestErrors(JournalTestCase):
    def test_cuttings(self):
        look = {"system": SYSTEM, "cuts": ()}
        wrong = [Cutting(SYSTEM, [("look", 2)]), Cutting.single(SYSTEM)]
        for value in (*STRANGE, 0, SYSTEM, Cutting, Posing(Cutting, **look), types.SimpleNamespace(**look), *wrong):
            for function in (recover, resume):
                for store, text in ((STORE, ""), (None, None), (Broken(), Broken()), ({}, 5)):
                    self.raises(InvalidCutting, value, function, value, store, text)

    def test_stores(self):
        others = [value for value in STRANGE if type(value) is not dict]
        others.extend([0, (), [(("m", 1), 5)], {"a": 1}, {("m", 1): True}, {("m", "a"): 1}, {("m", 1): 1.0}, {1: 1}])
        self.assertIn(None, [value for value in others if value is None])
        for store in others:
            for function in (recover, resume):
                for text in ("", None, Broken(), 5):
                    self.raises(InvalidStore, store, function, CUTTING, store, text)

    def test_texts(self):
        text = self.journal(*MOVES).text()
        for value in (*STRANGE, 0, (), (text,), [text], text.split("\n"), text.encode(), self.journal()):
            for function in (recover, resume):
                with self.subTest(shown(value)):
                    self.raises(InvalidText, value, function, CUTTING, STORE, value)

    def test_stores_that_change_later(self):
        store = dict(STORE)
        journal = resume(CUTTING, store, self.journal(*MOVES).text())
        found = recover(CUTTING, store, journal.text())
        store[("m", 1)] = 1000
        store.pop(("seen", 2))
        self.recovers(journal, journal.text())
        self.assertIs(found == journal.engine(), True)


if __name__ == "__main__":
    unittest.main()
