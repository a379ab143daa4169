"""Points 2, 14 and 15: runs, their rows, what pieces perform, and all rows of calls."""

import copy
import itertools
import random
import types
import unittest

import naive
from finestcuts.calls import perform
from finestcuts.cuttings import Cutting
from finestcuts.errors import (
    InvalidCall,
    InvalidCutting,
    InvalidNumber,
    InvalidRow,
    InvalidStore,
    NoPiece,
    UnknownCall,
)
from finestcuts.runs import Run, all_rows
from finestcuts.texts import parse_system
from making import Maker
from objects import LARGE, STRANGE, Broken, Posing, RaisingTestCase, Same, shown

SYSTEM = parse_system(
    """kind pay a b
  unlike a b
  read money[a] x
  check enough
  add money[a] -x
  choose
    add money[b] x
  or
    read log[0] y
    put log[0] y + 1
  end
  check late
end
kind move c
  backs
  check early
  add m[c] 2
  read m[c] x
  add m[c] x
  put log[c] x
  check late
end"""
)
SINGLE = Cutting.single(SYSTEM)
WHOLE = Cutting.whole(SYSTEM)
PAY = ("pay", (1, 2), (0,), None)
MOVE = ("move", (1,), (), None)
STORE = {("money", 1): 10, ("log", 0): 3, ("m", 1): 1}
ALONE = parse_system(
    """kind pay
  alone
  check x
  add m[0] 1
end
kind look
  backs
  alone
  add m[0] 1
  check x
end
kind both
  add m[0] 1
  add m[0] 1
end"""
)
ONE, TWO, BOTH = ("pay", (), (), None), ("look", (), (), None), ("both", (), (), None)
STOPPED = ("look", (), (), 1)

NO_NUMBERS = (*STRANGE, "0", (), (0,), [0], -1, 10**100, -(10**100), "pay")
NO_ROWS = (
    *STRANGE,
    0,
    1,
    "",
    "01",
    [],
    [0],
    [0, 1],
    {0: 1},
    range(2),
    iter((0, 1)),
    ("0",),
    ((0,),),
    ([0],),
    *[(number,) for number in (*STRANGE, 2, 3, -1, -2, 10**100)],
    *[(0, number) for number in (*STRANGE, 2, -1)],
    (0,) * 6,
    (1,) * 7,
    (0, 1) * 6,
    (0,) * 5000,
)


def of_kind(text, **more):
    """A system with the kind of this text and its cutting with all cuts."""
    return Cutting.single(parse_system(text.format(**more)))


class RunTestCase(RaisingTestCase):
    def leaves(self, run, store, after, told):
        """A run leaves this store and these locals, and keeps the store that it is handed."""
        kept = copy.deepcopy(store)
        found = run(store)
        self.assertEqual(found, (after, told))
        self.assertEqual([type(found), type(found[0]), type(found[1])], [tuple, dict, list])
        self.assertEqual({type(part) for part in found[1]} - {dict}, set())
        self.assertEqual({type(value) for part in (found[0], *found[1]) for value in part.values()} - {int}, set())
        self.assertEqual(store, kept)
        self.assertIsNot(found[0], store)


class TestExample(RunTestCase):
    def test_the_example(self):
        text = "kind pay a b\n  read money[a] x\n  add money[b] x\nend\nkind look a\n  read money[a] y\nend"
        cutting = Cutting(parse_system(text), [("pay", 1)])
        run = Run(cutting, (("pay", (1, 2), (), None), ("look", (2,), (), None)), (0, 1)) >> 0
        self.assertEqual(run.row, (0, 1, 0))
        self.assertIs(run.is_over, True)
        self.leaves(run, {("money", 1): 4}, {("money", 1): 4, ("money", 2): 4}, [{"x": 4}, {"y": 0}])
        self.assertEqual(len(list(all_rows(cutting, run.calls))), 3)
        self.assertEqual(list(all_rows(cutting, run.calls)), [(0, 0, 1), (0, 1, 0), (1, 0, 0)])


class TestRows(RunTestCase):
    def test_begun_and_whole(self):
        calls = (PAY, MOVE)
        run = Run(SINGLE, calls)
        row = (0, 1, 1, 0, 0, 1, 1, 1, 0, 0, 1)
        for at, number in enumerate(row):
            self.assertEqual([run.left(0), run.left(1)], [5 - row[:at].count(0), 6 - row[:at].count(1)])
            self.assertEqual((run.row, len(run), run.is_over, run.is_timely), (row[:at], at, False, True))
            self.assertIs(run == Run(SINGLE, calls, row[:at]), True)
            before, run = run, run >> number
            self.assertEqual(before.row, row[:at])
        self.assertEqual((run.row, run.is_over, len(run)), (row, True, 11))
        self.assertIs(run.cutting, SINGLE)
        self.assertEqual(run.calls, calls)
        for number in (0, 1):
            self.assertEqual(run.left(number), 0)
            self.raises(NoPiece, number, run.__rshift__, number, attribute="number")
        self.assertEqual(run.row, row)

    def test_in_place(self):
        run = same = Run(WHOLE, (PAY, MOVE))
        run >>= 1
        self.assertEqual((run.row, same.row), ((1,), ()))

    def test_by_name(self):
        run = Run(row=(0,), calls=(PAY,), cutting=SINGLE)
        self.assertEqual((run.row, run.left(number=0)), ((0,), 4))
        self.assertEqual(run.performed(position=0), [(SYSTEM["pay"].deeds[0], ("money", 1))])
        self.assertEqual(run(store={("money", 1): 3}), ({("money", 1): 3}, [{"x": 3, "y": 0}]))
        self.assertEqual(list(all_rows(calls=(PAY,), cutting=WHOLE)), [(0,)])

    def test_no_calls(self):
        for cutting in (WHOLE, SINGLE):
            run = Run(cutting, ())
            self.assertEqual((run.row, run.calls, len(run)), ((), (), 0))
            self.assertIs(run.is_over, True)
            self.assertIs(run.is_timely, True)
            self.leaves(run, {}, {}, [])
            self.leaves(run, {("m", 1): 0, ("m", 2): 3}, {("m", 2): 3}, [])
            self.assertEqual(list(all_rows(cutting, ())), [()])
            self.raises(UnknownCall, 0, run.left, 0)
            self.raises(UnknownCall, 0, run.__rshift__, 0)
            self.raises(InvalidNumber, 0, run.performed, 0)
            self.raises(InvalidRow, (0,), Run, cutting, (), (0,))

    def test_forty_calls(self):
        calls = tuple(("pay", (at, at + 1), (at & 1,), None) for at in range(40))
        run = Run(SINGLE, calls)
        for number in [*range(39, -1, -1)] * 2:
            run = run >> number
        self.assertEqual((len(run), run.left(39), run.is_over), (80, 3, False))
        self.assertEqual(len(run({})[1]), 40)
        whole = Run(SINGLE, calls, tuple(range(40)) * 5)
        self.assertIs(whole.is_over, True)
        for many in (41, 42, 100):
            more = calls[:1] * many
            self.raises(InvalidCall, more, Run, SINGLE, more)
            self.raises(InvalidCall, more, Run, SINGLE, more, None)
            self.raises(InvalidCall, more, list, all_rows(SINGLE, more))

    def test_the_same_call_twice(self):
        run = Run(WHOLE, (PAY, PAY), (1, 0))
        self.leaves(run, {("money", 1): 4}, {("money", 2): 4}, [{"x": 0, "y": 0}, {"x": 4, "y": 0}])


class TestErrors(RunTestCase):
    def test_no_cuttings(self):
        look = {"system": SYSTEM, "cuts": ()}
        others = (*STRANGE, 0, "pay", SYSTEM, Cutting, (), Posing(Cutting, **look), types.SimpleNamespace(**look))
        for cutting in others:
            for calls, row in (((PAY,), (0,)), ([PAY], (0,)), (None, None), (Broken(), Broken())):
                self.raises(InvalidCutting, cutting, Run, cutting, calls, row)
                self.raises(InvalidCutting, cutting, list, all_rows(cutting, calls))

    def test_no_tuples_of_calls(self):
        others = (*STRANGE, 0, "", "pay", [PAY], [], {0: PAY}, iter((PAY,)), Run(WHOLE, (PAY,)))
        for calls in others:
            for row in ((), (0,), None, [0], Broken()):
                self.raises(InvalidCall, calls, Run, WHOLE, calls, row)
            self.raises(InvalidCall, calls, list, all_rows(WHOLE, calls))

    def test_wrong_calls(self):
        wrong = (
            *STRANGE,
            0,
            "pay",
            (),
            list(PAY),
            (PAY,),
            PAY[:3],
            ("pay", (1, 1), (0,), None),
            ("pay", (1, 2), (2,), None),
            ("pay", (1, True), (0,), None),
            ("pay", (1, 2), (True,), None),
            ("pay", (1, 2), (0,), 2),
            ("pay", (1, 2), (0,), True),
            ("look", (1,), (), None),
            (["pay"], (1,), (), None),
            ("move", (1,), (), 1),
        )
        for one, other in zip(wrong, wrong[1:] + wrong[:1]):
            for calls in ((one,), (one, other), (PAY, one, other), (MOVE, PAY, one), (one, PAY)):
                for row in ((), (5,), None, Broken()):
                    self.raises(InvalidCall, one, Run, WHOLE, calls, row)
                self.raises(InvalidCall, one, list, all_rows(WHOLE, calls))

    def test_wrong_rows(self):
        for row in NO_ROWS:
            self.raises(InvalidRow, row, Run, SINGLE, (PAY, MOVE), row)
        for row in ((0, 0), (1, 0, 1), (0, 2), (True,), (0, False)):
            self.raises(InvalidRow, row, Run, WHOLE, (PAY, MOVE), row)
        for stop, many in ((0, 1), (5, 11)):
            calls = (("move", (1,), (), stop),)
            self.assertIs(Run(SINGLE, calls, (0,) * many).is_over, True)
            row = (0,) * (many + 1)
            self.raises(InvalidRow, row, Run, SINGLE, calls, row)

    def test_unknown_calls(self):
        for run in (Run(SINGLE, (PAY, MOVE)), Run(WHOLE, (PAY, MOVE), (1, 0))):
            for number in (*NO_NUMBERS, 2, 3, 40, run, run.calls):
                self.raises(UnknownCall, number, run.left, number)
                self.raises(UnknownCall, number, run.__rshift__, number)
                self.raises(UnknownCall, number, lambda: run >> number)
        for number in (0, 1):
            self.raises(NoPiece, number, lambda: Run(WHOLE, (PAY, MOVE), (0, 1)) >> number, attribute="number")

    def test_no_positions(self):
        for row in ((), (0,), (1, 0, 0, 1)):
            run = Run(SINGLE, (PAY, MOVE), row)
            for position in (*NO_NUMBERS, len(row), len(row) + 1, -len(row) - 1):
                self.raises(InvalidNumber, position, run.performed, position)

    def test_no_stores(self):
        others = [value for value in STRANGE if value is not None and type(value) is not dict]
        more = (None, {"a": 1}, [], {("m", 1): True}, {("m", 1): None}, {("m", True): 1}, {("M", 1): 1}, {"m": 1})
        for store in (*others, *more):
            for run in (Run(WHOLE, ()), Run(SINGLE, (PAY, MOVE), (0, 1))):
                self.raises(InvalidStore, store, run, store)

    def test_an_error_changes_nothing(self):
        run = Run(SINGLE, (PAY, MOVE), (0, 1))
        for function, argument in ((run.left, 2), (run.__rshift__, True), (run.performed, 9), (run, None)):
            with self.assertRaises(Exception):
                function(argument)
        self.assertIs(run == Run(SINGLE, (PAY, MOVE), (0, 1)), True)


STOPS = """kind pay a
{flags}  add m[0] 1
  check x
  read m[0] x
  add m[a] x
  put s[0] x
  check y
  add m[0] 5
  check z
end"""


class TestStops(RunTestCase):
    def performed(self, run, *expected):
        self.assertEqual([run.performed(at) for at in range(len(run))], [list(deeds) for deeds in expected])
        for at in range(len(run)):
            found = run.performed(at)
            self.assertIs(type(found), list)
            self.assertIsNot(run.performed(at), found)
            found.append(None)
            self.assertNotIn(None, run.performed(at))

    def test_how_many_pieces(self):
        for flags, counts in (("", {None: 8, 1: 2, 5: 6, 7: 8}), ("  backs\n", {None: 8, 1: 3, 5: 11, 7: 15})):
            cutting = of_kind(STOPS, flags=flags)
            for stop, count in counts.items():
                self.assertEqual(Run(cutting, (("pay", (1,), (), stop),)).left(0), count)
        for flags, cuts, expected in (
            ("", (), (1, 1, 1, 1)),
            ("  backs\n", (), (1, 1, 1, 1)),
            ("", (2, 6), (3, 1, 2, 3)),
            ("  backs\n", (2, 6), (3, 1, 3, 5)),
            ("  backs\n", (1, 5), (3, 3, 5, 5)),
            ("", (1, 5), (3, 2, 3, 3)),
        ):
            cutting = Cutting(of_kind(STOPS, flags=flags).system, [("pay", cut) for cut in cuts])
            counts = [Run(cutting, (("pay", (1,), (), stop),)).left(0) for stop in (None, 1, 5, 7)]
            self.assertEqual(tuple(counts), expected)

    def test_a_kind_that_does_not_back(self):
        cutting = of_kind(STOPS, flags="")
        add, read, give, put, last = cutting.system["pay"].deeds
        run = Run(cutting, (("pay", (7,), (), 5),), (0,) * 6)
        zero, seven, seen = ("m", 0), ("m", 7), ("s", 0)
        self.performed(run, [(add, zero)], [], [(read, zero)], [(give, seven)], [(put, seen)], [])
        self.assertIs(run.is_over, True)
        self.leaves(run, {zero: 2}, {zero: 3, seven: 3, seen: 3}, [{"x": 3}])
        run = Run(cutting, (("pay", (7,), (), 7),), (0,) * 8)
        self.assertEqual(run.performed(6), [(last, zero)])
        self.leaves(run, {zero: 2}, {zero: 8, seven: 3, seen: 3}, [{"x": 3}])

    def test_a_kind_that_backs(self):
        cutting = of_kind(STOPS, flags="  backs\n")
        add, read, give, put, last = cutting.system["pay"].deeds
        zero, seven, seen = ("m", 0), ("m", 7), ("s", 0)
        run = Run(cutting, (("pay", (7,), (), 5),), (0,) * 11)
        ahead = [[(add, zero)], [], [(read, zero)], [(give, seven)], [(put, seen)], []]
        self.performed(run, *ahead, [], [(give, seven)], [], [], [(add, zero)])
        # What was put stays: only adds are taken back.
        stores = [{zero: 1}] * 3 + [{zero: 1, seven: 1}] + [{zero: 1, seven: 1, seen: 1}] * 3
        stores += [{zero: 1, seen: 1}] * 3 + [{seen: 1}]
        for many, after in enumerate(stores, start=1):
            self.leaves(Run(cutting, run.calls, (0,) * many), {}, after, [{"x": 1 if many > 2 else 0}])
        run = Run(cutting, (("pay", (0,), (), 7),), (0,) * 15)
        self.assertEqual(run.performed(8), [(last, zero)])
        self.leaves(run, {zero: 4}, {zero: 4, seen: 5}, [{"x": 5}])

    def test_first_pieces(self):
        for flags in ("", "  backs\n"):
            for cuts in ((), (2,), (2, 4, 6)):
                cutting = Cutting(of_kind(STOPS, flags=flags).system, [("pay", cut) for cut in cuts])
                run = Run(cutting, (("pay", (7,), (), 1),)) >> 0
                self.assertIs(run.is_over, True)
                self.performed(run, [])
                self.leaves(run, {("m", 0): 2}, {("m", 0): 2}, [{"x": 0}])

    def test_what_is_read_in_the_piece_of_the_stop(self):
        for cuts, many, value in (((), 1, 0), ((3,), 2, 5), ((2,), 2, 0), ((1, 3), 3, 5)):
            cutting = Cutting(of_kind(STOPS, flags="").system, [("pay", cut) for cut in cuts])
            run = Run(cutting, (("pay", (7,), (), 5),), (0,) * many)
            self.assertIs(run.is_over, True)
            self.assertEqual(run({("m", 0): 4})[1], [{"x": value}])

    def test_a_local_that_has_another_value_by_then(self):
        text = """kind pay a b
  backs
  read m[a] x
  add m[b] 2 * x
  read m[b] x
  add m[b] x - 1
  choose
    add m[a] 3
    add m[a] x
  or
    read m[b] x
  end
  check x
end"""
        cutting = Cutting(parse_system(text), [("pay", 1), ("pay", 3), ("pay", 5)])
        for choice, taken in ((0, 5), (1, 5)):
            run = Run(cutting, (("pay", (1, 2), (choice,), 5),), (0,) * 7)
            self.assertIs(run.is_over, True)
            deeds = cutting.system["pay"].deeds
            adds = [(deeds[3], ("m", 2)), (deeds[4], ("m", 1)), (deeds[5], ("m", 1))][: 3 - 2 * choice]
            self.assertEqual(run.performed(4), adds[::-1])
            self.assertEqual(run.performed(5), [(deeds[1], ("m", 2))])
            self.assertEqual(run.performed(6), [])
            told = run({("m", 1): taken, ("m", 2): 1})
            self.assertEqual(told, ({("m", 1): 5, ("m", 2): 1}, [{"x": 11 if choice == 0 else 21}]))
        calls = (("pay", (1, 1), (0,), 5), ("pay", (1, 2), (1,), None))
        run = Run(cutting, calls, (0, 0, 1, 0, 1, 0, 0, 1, 0, 1, 0))
        self.assertEqual(run({("m", 1): 1}), naive.run_over(cutting, calls, run.row, {("m", 1): 1}))

    def test_a_back_piece_behind_other_calls(self):
        text = "kind pay a\n  backs\n  read m[0] x\n  add m[0] x\n  check x\nend"
        cutting = Cutting(parse_system(text), [("pay", 2)])
        run = Run(cutting, (("pay", (1,), (), 2), ("pay", (2,), (), None)), (0, 1, 0, 0, 1))
        self.leaves(run, {("m", 0): 3}, {("m", 0): 9}, [{"x": 3}, {"x": 6}])


class TestStores(RunTestCase):
    def test_values_of_0(self):
        run = Run(SINGLE, (PAY, MOVE), (0, 0, 0, 1, 1))
        store = {("money", 1): 5, ("money", 9): 0, ("m", 1): -2, ("m", 0): 0}
        self.leaves(run, store, {}, [{"x": 5, "y": 0}, {"x": 0}])
        self.leaves(Run(SINGLE, (PAY,)), store, {("money", 1): 5, ("m", 1): -2}, [{"x": 0, "y": 0}])

    def test_large_numbers(self):
        huge = 10**3999
        run = Run(SINGLE, (("pay", (huge, 2), (0,), None),), (0, 0, 0, 0))
        self.leaves(run, {("money", huge): huge}, {("money", 2): huge}, [{"x": huge, "y": 0}])

    def test_results_are_new(self):
        run = Run(SINGLE, (PAY, MOVE), (0, 1, 1))
        store, told = run(STORE)
        expected = run(STORE)
        store.clear()
        told[0].clear()
        told.clear()
        self.assertEqual(run(STORE), expected)
        self.assertIsNot(run(STORE)[1][0], expected[1][0])

    def test_chooses(self):
        for choice, store, told in (
            (0, {("money", 2): 10, ("log", 0): 3, ("m", 1): 1}, {"x": 10, "y": 0}),
            (1, {("log", 0): 4, ("m", 1): 1}, {"x": 10, "y": 3}),
        ):
            run = Run(SINGLE, (("pay", (1, 2), (choice,), None),), (0,) * 5)
            self.leaves(run, STORE, store, [told])
            deeds = SYSTEM["pay"].deeds
            expected = [[(deeds[2], ("money", 2))], [(deeds[3], ("log", 0)), (deeds[4], ("log", 0))]][choice]
            self.assertEqual(run.performed(3), expected)
            whole = Run(WHOLE, run.calls, (0,))
            self.assertEqual(whole.performed(0), [row for at in range(5) for row in run.performed(at)])

    def test_whole_calls_one_after_another(self):
        for seed in range(100):
            maker = Maker(random.Random(seed))
            system = maker.system()
            calls = [maker.call(kind) for kind in system.kinds]
            calls = tuple((*call[:3], None) for call in calls if call is not None)
            store = {("m", 0): 3, ("s", 1): -2, ("t", 2): 5}
            expected, told = store, []
            for call in calls:
                expected, values = perform(system, call, expected)
                told.append(values)
            cutting = Cutting.single(system)
            row = tuple(at for at, call in enumerate(calls) for _ in cutting.pieces(call[0]))
            self.leaves(Run(cutting, calls, row), store, {item: v for item, v in expected.items() if v}, told)

    def test_many_runs(self):
        stopped = 0
        for seed in range(250):
            maker = Maker(random.Random(seed))
            source = maker.source
            system = maker.system()
            single = Cutting.single(system)
            cutting = Cutting(system, [cut for cut in single if source.random() < 0.6])
            calls = [maker.call(kind) for kind in system.kinds * 2]
            calls = tuple(call for call in calls if call is not None)
            row = [at for at, call in enumerate(calls) for _ in naive.pieces_of(cutting, call)]
            source.shuffle(row)
            row = tuple(row[: source.choice((len(row), len(row), 5, 10))])
            run = Run(cutting, calls, row)
            stopped += len([call for call in calls if call[3] is not None])
            pieces = naive.row_pieces(cutting, calls, row)
            self.assertEqual([run.performed(at) for at in range(len(row))], [deeds for _, deeds in pieces])
            counts = [len(naive.pieces_of(cutting, call)) for call in calls]
            for number, count in enumerate(counts):
                self.assertEqual(run.left(number), count - row.count(number))
            self.assertIs(run.is_over, len(row) == sum(counts))
            self.assertIs(run.is_timely, naive.is_timely(cutting, calls, row))
            store = {(table, index): source.choice((0, 1, -5, 8)) for table in "mst" for index in (-1, 0, 1, 2)}
            self.leaves(run, store, *naive.run_over(cutting, calls, row, store))
        self.assertGreater(stopped, 300)


class TestTimely(RunTestCase):
    def timely(self, expected, calls, *rows, cutting=None):
        for row in rows:
            with self.subTest(calls=calls, row=row):
                run = Run(Cutting.single(ALONE) if cutting is None else cutting, calls, row)
                self.assertIs(run.is_timely, expected)
                self.assertIs(naive.is_timely(run.cutting, calls, row), expected)

    def test_without_alone_calls(self):
        self.timely(True, (BOTH, BOTH), *itertools.permutations((0, 0, 1, 1)))

    def test_one_alone_call(self):
        self.timely(True, (ONE, BOTH), *itertools.permutations((0, 0, 1, 1)))

    def test_two_alone_calls(self):
        for other in (ONE, TWO):
            self.timely(True, (ONE, other), (), (0,), (1,), (0, 0), (0, 0, 1), (0, 0, 1, 1), (1, 1, 0), (1, 1, 0, 0))
            self.timely(False, (ONE, other), (0, 1), (1, 0), (0, 1, 0), (0, 1, 1), (0, 1, 1, 0), (1, 0, 0, 1))

    def test_others_between(self):
        calls = (ONE, BOTH, TWO)
        self.timely(True, calls, (0, 1, 0, 1, 2), (0, 1, 0, 2, 1, 2), (1, 2, 1, 2, 0), (1, 1, 0))
        self.timely(False, calls, (0, 1, 2), (0, 1, 1, 2), (2, 1, 0, 1), (0, 1, 2, 0))

    def test_calls_that_stop(self):
        # It has three pieces, the last one of which takes back.
        self.timely(True, (STOPPED, ONE), (0, 0, 0, 1, 1), (1, 1, 0), (1, 1, 0, 0, 0))
        self.timely(False, (STOPPED, ONE), (0, 0, 1), (0, 1), (0, 0, 1, 1, 0), (1, 0, 0, 0, 1))
        whole = Cutting.whole(ALONE)
        self.timely(True, (STOPPED, ONE, TWO, TWO), *itertools.permutations(range(4)), cutting=whole)
        stopped = ("pay", (), (), 0)
        self.timely(True, (stopped, ONE), (0, 1), (0, 1, 1), (1, 1, 0))
        self.timely(False, (stopped, ONE), (1, 0), (1, 0, 1))

    def test_runs_need_not_be_timely(self):
        run = Run(Cutting.single(ALONE), (ONE, TWO), (0, 1, 0))
        self.assertIs(run.is_timely, False)
        self.leaves(run, {}, {("m", 0): 2}, [{}, {}])
        self.assertEqual((run >> 1).row, (0, 1, 0, 1))


class TestAllRows(RunTestCase):
    def rows(self, cutting, calls):
        found = list(all_rows(cutting, calls))
        self.assertEqual(found, naive.rows_of(cutting, calls))
        self.assertEqual(len(set(found)), len(found))
        self.assertTrue(all(type(row) is tuple and Run(cutting, calls, row).is_over for row in found))
        return found

    def test_by_hand(self):
        single = Cutting.single(ALONE)
        self.assertEqual(self.rows(single, (ONE, TWO)), [(0, 0, 1, 1), (1, 1, 0, 0)])
        self.assertEqual(self.rows(single, (STOPPED, ONE)), [(0, 0, 0, 1, 1), (1, 1, 0, 0, 0)])
        self.assertEqual(len(self.rows(single, (ONE, BOTH))), 6)
        self.assertEqual(len(self.rows(single, (BOTH, BOTH, BOTH))), 90)
        self.assertEqual(len(self.rows(single, (ONE, BOTH, TWO))), 30)
        self.assertEqual(self.rows(Cutting.whole(ALONE), (ONE, TWO)), [(0, 1), (1, 0)])

    def test_many_cuttings(self):
        found = 0
        for seed in range(120):
            maker = Maker(random.Random(seed))
            system = maker.system()
            cutting = Cutting(system, [cut for cut in Cutting.single(system) if maker.source.random() < 0.3])
            calls = [maker.call(kind) for kind in (*system.kinds, *system.kinds, *system.kinds)[:3]]
            calls = tuple(call for call in calls if call is not None)
            if sum(len(naive.pieces_of(cutting, call)) for call in calls) <= 9:
                found += len(self.rows(cutting, calls))
        self.assertGreater(found, 2000)

    def test_many_pieces(self):
        cutting = of_kind(STOPS, flags="  backs\n")
        calls = tuple(("pay", (at,), (), 7) for at in range(40))
        rows = all_rows(cutting, calls)
        first = tuple(number for number in range(40) for _ in range(15))
        self.assertEqual(next(rows), first)
        self.assertEqual(next(rows), first[:584] + (39,) + (38,) + (39,) * 14)

    def test_arguments_are_checked_late(self):
        for cutting, calls, error in ((None, None, InvalidCutting), (WHOLE, [PAY], InvalidCall)):
            rows = all_rows(cutting, calls)
            self.assertRaises(error, next, rows)
        rows = all_rows(WHOLE, (PAY, MOVE))
        self.assertEqual([next(rows), next(rows)], [(0, 1), (1, 0)])
        self.assertRaises(StopIteration, next, rows)


class TestEquality(RunTestCase):
    def test_equal(self):
        run = Run(SINGLE, (PAY, MOVE), (0, 1))
        system = parse_system("kind a\n  check x\nend") + SYSTEM["pay"] + SYSTEM["move"] - "a"
        other = Run(Cutting.single(system), run.calls)
        self.assertIs(run == other >> 0 >> 1, True)
        self.assertIs(run != other >> 0 >> 1, False)
        self.assertIs(run == run, True)

    def test_different(self):
        run = Run(SINGLE, (PAY, MOVE), (0, 1))
        others = (
            Run(SINGLE, (PAY, MOVE), (1, 0)),
            Run(SINGLE, (PAY, MOVE), (0,)),
            Run(SINGLE, (MOVE, PAY), (0, 1)),
            Run(SINGLE, (PAY, MOVE, MOVE), (0, 1)),
            Run(SINGLE, (("pay", (1, 2), (1,), None), MOVE), (0, 1)),
            Run(SINGLE, (("pay", (1, LARGE), (0,), None), MOVE), (0, 1)),
            Run(SINGLE - Cutting(SYSTEM, [("pay", 4)]), (PAY, MOVE), (0, 1)),
        )
        look = {"cutting": SINGLE, "calls": run.calls, "row": run.row}
        strange = (*STRANGE, 0, run.row, run.calls, SINGLE, Run, types.SimpleNamespace(**look), Posing(Run, **look))
        for other in (*others, *strange, Same()):
            with self.subTest(shown(other)):
                self.assertIs(run == other, False)
                self.assertIs(run != other, True)

    def test_not_iterated_over(self):
        run = Run(SINGLE, (PAY, MOVE), (0, 1))
        with self.assertRaises(TypeError):
            list(run)
        with self.assertRaises(TypeError):
            run[0]


if __name__ == "__main__":
    unittest.main()
