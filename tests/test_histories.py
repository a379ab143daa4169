"""Points 2 and 42: what the pieces of runs have read, and stores from which they read it."""

import itertools
import random
import types
import unittest

import naive
from finestcuts.calls import is_call
from finestcuts.cuttings import Cutting
from finestcuts.errors import InvalidRow, InvalidRun, InvalidStore
from finestcuts.histories import best_store, find_wrong, reads
from finestcuts.kinds import Kind
from finestcuts.runs import Run
from finestcuts.systems import System
from finestcuts.texts import format_system, parse_system
from making import Maker
from objects import LARGE, STRANGE, Broken, Posing, RaisingTestCase, Same, shown

SYSTEM = parse_system(
    """kind pay a b
  read m[a] x
  read m[b] y
  add m[a] -x
  choose
    read m[a] x
    read m[a] x
  or
    put m[b] x + y
  end
  check late
end
kind move c
  backs
  add m[c] 2
  read m[c] x
  check early
  add m[c] 1
end"""
)
CUTTING = Cutting(SYSTEM, [("pay", 2), ("pay", 4), ("move", 2)])
CALLS = (("pay", (1, 2), (0,), None), ("move", (1,), (), 2), ("pay", (2, 1), (1,), 4))
ROW = (0, 1, 2, 0, 1, 0, 2, 1, 2)
RUN = Run(CUTTING, CALLS, ROW)
STORE = {("m", 1): 5, ("m", 2): 7}
# 0 reads both; 1 adds 2 and reads; 2 reads both; 0 takes its 5 away and reads twice; 1 stops; ..; 1 takes its 2 back.
TOLD = [(5, 7), (7,), (7, 7), (2, 2), (), (), (), (), ()]


class HistoryTestCase(RaisingTestCase):
    def finds(self, run, told, expected=True):
        """A store is told from which the run reads just this, or None."""
        kept = list(told)
        found = best_store(run, told)
        self.assertEqual(told, kept)
        if found is None:
            self.assertIs(expected, False)
            return None
        self.assertIs(expected, True)
        self.assertIs(type(found), dict)
        self.assertEqual(naive.history_over(run.cutting, run.calls, run.row, found)[2], told)
        self.assertEqual(repr(best_store(run, told)), repr(found))
        self.assertIsNot(best_store(run, told), found)
        return found

    def row_of(self, text, *told, cuts=(), names=None, expected=True):
        """Whole calls of kinds without parameters, one after the other."""
        system = parse_system(text)
        cutting = Cutting(system, cuts)
        calls = tuple((name, (), (), None) for name in (names or system.names))
        row = tuple(at for at, call in enumerate(calls) for _ in cutting.pieces(call[0]))
        return self.finds(Run(cutting, calls, row), list(told), expected)


class TestReads(HistoryTestCase):
    def test_by_hand(self):
        for _ in range(2):
            found = reads(RUN, STORE)
            self.assertEqual(found, TOLD)
            self.assertEqual([type(row) for row in (found, *found)], [list] + [tuple] * 9)
            found.append(None)
        self.assertEqual(reads(store={}, run=RUN), [(0, 0), (2,), (0, 2), (2, 2), (), (), (), (), ()])
        self.assertEqual(reads(Run(CUTTING, CALLS), STORE), [])
        self.assertEqual(reads(Run(CUTTING, ()), STORE), [])
        self.assertEqual(STORE, {("m", 1): 5, ("m", 2): 7})

    def test_stopped_calls_and_back_pieces(self):
        self.assertEqual(reads(Run(CUTTING, CALLS, (1, 1, 1)), STORE), [(7,), (), ()])
        self.assertEqual(reads(Run(CUTTING, CALLS, (1, 1, 1, 0)), STORE)[3], (5, 7))
        self.assertEqual(reads(Run(CUTTING, CALLS, (2, 2, 2)), STORE), [(7, 5), (), ()])

    def test_drawn_runs(self):
        many = 0
        for seed in range(250):
            source = random.Random(seed)
            maker = Maker(source)
            system = System(maker.system().kinds, 100)
            single = Cutting.single(system)
            cutting = Cutting(system, [cut for cut in single if source.random() < 0.6])
            made = [maker.call(source.choice(system.kinds)) for _ in range(3)]
            calls = tuple(call for call in made if call is not None)
            row = [at for at, call in enumerate(calls) for _ in naive.pieces_of(cutting, call)]
            source.shuffle(row)
            row = tuple(row[: source.randint(0, len(row))])
            store = {(table, index): source.choice((-3, 0, 5, 10**30)) for table in "mst" for index in range(8)}
            with self.subTest(seed=seed):
                run = Run(cutting, calls, row)
                expected = naive.history_over(cutting, calls, row, store)[2]
                self.assertEqual(reads(run, store), expected)
                self.assertIsNone(find_wrong(run, store, expected))
                self.finds(run, expected)
                many += sum(len(got) for got in expected)
        self.assertGreater(many, 300)


class TestFindWrong(HistoryTestCase):
    def test_one_value_changed(self):
        self.assertIsNone(find_wrong(RUN, STORE, TOLD))
        self.assertIsNone(find_wrong(told=TOLD, store=STORE, run=RUN))
        self.assertEqual(find_wrong(RUN, {**STORE, ("m", 1): 6}, TOLD), 0)
        for at, row in enumerate(TOLD):
            for place in range(len(row)):
                for value in (row[place] + 1, -row[place], 0, LARGE):
                    told = [list(got) for got in TOLD]
                    told[at][place] = value
                    told = [tuple(got) for got in told]
                    self.assertEqual(find_wrong(RUN, STORE, told), at)
                    for later in range(at, len(TOLD)):
                        told[later] = (*told[later], 9)
                    self.assertEqual(find_wrong(RUN, STORE, told), at)

    def test_tuples_too_short_and_too_long(self):
        for at, row in enumerate(TOLD):
            for wrong in ((*row, 0), (0, *row), row[:-1], row[1:], row * 2, (7,) * 5):
                if wrong != row:
                    told = [*TOLD[:at], wrong, *TOLD[at + 1 :]]
                    self.assertEqual(find_wrong(RUN, STORE, told), at)
                    self.assertIsNone(best_store(RUN, told) if len(wrong) != len(row) else None)
        self.assertEqual(find_wrong(RUN, STORE, [()] * 9), 0)
        self.assertEqual(find_wrong(RUN, STORE, [*TOLD[:8], (0,)]), 8)
        self.assertIs(find_wrong(Run(CUTTING, CALLS), STORE, []), None)

    def test_a_list_that_was_returned(self):
        found = reads(RUN, STORE)
        self.assertIsNone(find_wrong(RUN, STORE, found))
        found[3] = (2, 3)
        self.assertEqual(find_wrong(RUN, STORE, found), 3)


class TestBestStore(HistoryTestCase):
    def test_by_hand(self):
        self.assertEqual(self.finds(RUN, TOLD), STORE)
        self.assertEqual(best_store(told=TOLD, run=RUN), STORE)
        self.assertIsNone(self.finds(RUN, [(5, 7), (8,), *TOLD[2:]], False))
        self.assertEqual(self.finds(Run(CUTTING, CALLS), []), {})
        self.assertEqual(self.finds(Run(CUTTING, ()), []), {})
        self.assertEqual(self.finds(Run(CUTTING, CALLS, (1, 1, 1)), [(2,), (), ()]), {})

    def test_adds_and_puts(self):
        self.row_of("kind a\n  add m[0] 3\n  read m[0] x\nend", (3,))
        self.row_of("kind a\n  add m[0] 3\n  read m[0] x\nend", (-LARGE,))
        self.row_of("kind a\n  put m[0] 3\n  read m[0] x\nend", (3,))
        self.row_of("kind a\n  put m[0] 3\n  read m[0] x\nend", (4,), expected=False)
        self.row_of("kind a\n  read m[0] x\n  put m[0] 3\n  add m[0] x\n  read m[0] y\nend", (5, 8))
        self.row_of("kind a\n  read m[0] x\n  put m[0] 3\n  add m[0] x\n  read m[0] y\nend", (5, 9), expected=False)
        self.row_of("kind a\n  read m[0] x\n  read m[1] y\n  add m[1] -x\n  read m[1] x\nend", (5, 9, 4))
        self.row_of(
            "kind a\n  read m[0] x\n  read m[1] y\n  add m[1] -x\n  read m[1] x\nend", (5, 9, 5), expected=False
        )

    def test_raises_and_lowers(self):
        text = "kind a\n  raise m[0] 3\n  read m[0] x\nend\nkind b\n  lower m[0] 7\n  read m[0] x\nend"
        for told, names, expected in (
            ([(3,)], "a", True),
            ([(4,)], "a", True),
            ([(2,)], "a", False),
            ([(7,)], "b", True),
            ([(6,)], "b", True),
            ([(8,)], "b", False),
            ([(3,), (3,)], "ab", True),
            ([(9,), (7,)], "ab", True),
            ([(7,), (7,)], "ab", True),
            ([(6,), (7,)], "ab", False),
            ([(7,), (3,)], "ba", False),
            ([(-5,), (3,)], "ba", True),
            ([(5,), (5,)], "ba", True),
            ([(2,), (2,)], "ba", False),
            ([(7,), (7,), (7,)], "aba", True),
            ([(8,), (7,), (7,)], "aba", True),
            ([(8,), (8,), (8,)], "aba", False),
        ):
            self.row_of(text, *told, names=names, expected=expected)
        # Bounds from several reads meet in one value, or in none.
        text = "kind a\n  raise m[0] 3\n  read m[0] x\nend\nkind b\n  put m[0] 5\n  read m[0] x\nend"
        text += "\nkind c\n  lower m[0] 5\n  read m[0] x\n  add m[0] -4\n  raise m[0] 1\n  read m[0] y\nend"
        for told, names, expected in (
            ([(5, 1)], "c", True),
            ([(4, 1)], "c", True),
            ([(5, 2)], "c", False),
            ([(6, 2)], "c", False),
            ([(4, 0)], "c", False),
            ([(9,), (5,)], "ab", True),
            ([(9,), (5, 1)], "ac", True),
            ([(9,), (5, 1), (1, 1), (3,)], "acca", True),
            ([(9,), (5, 1), (1, 1), (2,)], "acca", False),
            ([(5,), (5, 1)], "bc", True),
            ([(5,), (5,), (5, 1)], "bac", True),
            ([(5,), (4,), (5, 1)], "bac", False),
        ):
            self.row_of(text, *told, names=names, expected=expected)

    def test_back_pieces(self):
        cutting = Cutting(SYSTEM, [("move", 2)])
        move, look = ("move", (1,), (), 2), ("pay", (1, 1), (0,), None)
        run = Run(cutting, (move, look), (0, 0, 1, 0))
        self.finds(run, [(4,), (), (4, 4, 0, 0), ()])
        self.finds(run, [(4,), (), (2, 2, 0, 0), ()], False)
        run = Run(cutting, (move, look), (0, 0, 0, 1))
        self.assertEqual(self.finds(run, [(4,), (), (), (2, 2, 0, 0)]), {("m", 1): 2})
        self.finds(run, [(4,), (), (), (4, 4, 0, 0)], False)
        for at in (1, 2):
            told = [(4,), (), (), (2, 2, 0, 0)]
            told[at] = (0,)
            self.finds(run, told, False)

    def small_kind(self, source, name):
        """A kind over two items, whose sums are small and name what was read."""
        known, steps = [], []
        for _ in range(source.randint(1, 4)):
            word = source.choice(("read", "read", "add", "raise", "lower", "put"))
            place = ("m", source.choice((0, 1, "a")))
            if word == "read":
                known.append(source.choice("xy"))
                steps.append(("read", place, known[-1]))
            else:
                terms = tuple((source.choice((1, -1)), local) for local in sorted(set(known)) if source.random() < 0.4)
                steps.append((word, place, ("sum", source.choice((-1, 0, 1, 2)), terms)))
        if source.random() < 0.3:
            steps.append(("check", "x"))
        return Kind(name, ("a",), tuple(steps), (), source.random() < 0.5)

    def test_against_a_search(self):
        found = {True: 0, False: 0}
        domain = range(-5, 6)
        for seed in range(300):
            source = random.Random(seed)
            system = System((self.small_kind(source, "pay"), self.small_kind(source, "look")))
            cutting = Cutting(system, [cut for cut in Cutting.single(system) if source.random() < 0.5])
            calls = []
            for name in ("pay", "look", "pay"):
                stop = source.choice((None, *system[name].checks))
                calls.append((name, (source.choice((0, 1)),), (), stop))
                self.assertIs(is_call(system, calls[-1]), True)
            row = [at for at, call in enumerate(calls) for _ in naive.pieces_of(cutting, call)]
            source.shuffle(row)
            run = Run(cutting, tuple(calls), tuple(row))
            stores = [
                dict(zip((("m", 0), ("m", 1)), pair, strict=True)) for pair in itertools.product(domain, repeat=2)
            ]
            able = [naive.history_over(cutting, calls, row, store)[2] for store in stores]
            for _ in range(6):
                told = [
                    tuple(value + source.choice((0, 0, 0, 0, 1, -1)) for value in got) for got in source.choice(able)
                ]
                with self.subTest(format_system(system), row=row, told=told):
                    if told in able:
                        found[self.finds(run, told) is not None] += 1
                    elif best_store(run, told) is None:
                        found[False] += 1
                    else:
                        # A store with other values, then.
                        other = self.finds(run, told)
                        self.assertFalse(all(value in domain for value in other.values()))
        self.assertGreater(min(found.values()), 200, found)


class TestErrors(HistoryTestCase):
    def test_runs(self):
        look = {"cutting": CUTTING, "calls": CALLS, "row": ROW}
        for run in (
            *STRANGE,
            0,
            CUTTING,
            Run,
            Posing(Run, **look),
            types.SimpleNamespace(**look),
            (CUTTING, CALLS, ROW),
        ):
            self.raises(InvalidRun, run, reads, run, STORE)
            self.raises(InvalidRun, run, reads, run, None)
            for store in (STORE, None, Broken()):
                for told in (TOLD, None, Broken()):
                    self.raises(InvalidRun, run, find_wrong, run, store, told)
            for told in (TOLD, None, []):
                self.raises(InvalidRun, run, best_store, run, told)

    def test_stores(self):
        others = [value for value in STRANGE if type(value) is not dict]
        others.extend([0, (), [(("m", 1), 5)], {"a": 1}, {("m", 1): True}, {("m", "a"): 1}, {("m", 1): 1.0}, {1: 1}])
        for store in others:
            self.raises(InvalidStore, store, reads, RUN, store)
            for told in (TOLD, None, [], Broken()):
                self.raises(InvalidStore, store, find_wrong, RUN, store, told)

    def test_what_is_not_of_the_form(self):
        wrong = list(STRANGE)
        wrong.extend([0, "", (), tuple(TOLD), TOLD[:-1], [*TOLD, ()], TOLD * 2, [()] * 8, {at: () for at in range(9)}])
        for at in range(9):
            for row in (*STRANGE, 5, "5", [5, 7], list(TOLD[at]), {5: 7}, range(2)):
                wrong.append([*TOLD[:at], row, *TOLD[at + 1 :]])
            for value in (*STRANGE, "5", (5,), [5]):
                wrong.append([*TOLD[:at], (value,), *TOLD[at + 1 :]])
                wrong.append([*TOLD[:at], (*TOLD[at], value), *TOLD[at + 1 :]])
        wrong.append([(True, 7), *TOLD[1:]])
        wrong.append([(5, 7.0), *TOLD[1:]])
        for told in wrong:
            with self.subTest(shown(told)):
                self.raises(InvalidRow, told, find_wrong, RUN, STORE, told)
                self.raises(InvalidRow, told, best_store, RUN, told)
        for told in ([()], [(1,)], None, ()):
            self.raises(InvalidRow, told, best_store, Run(CUTTING, CALLS), told)
        for told in ([Same()] * 9, [Broken()] * 9):
            self.raises(InvalidRow, told, best_store, RUN, told)


if __name__ == "__main__":
    unittest.main()
