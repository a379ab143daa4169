"""Points 2 and 38 to 41: engines, which perform pieces with locks and go on after crashes."""

import itertools
import random
import time
import types
import unittest

import naive
from finestcuts.cuttings import Cutting
from finestcuts.engines import Engine
from finestcuts.errors import InvalidCall, InvalidCutting, InvalidStore, NoPiece, NotOpen, TooMany, UnknownCall
from finestcuts.finest import finest
from finestcuts.orders import is_order, order
from finestcuts.runs import Run
from finestcuts.systems import System
from finestcuts.texts import format_system, parse_system
from making import Maker, SmallMaker, largest_system
from objects import LARGE, STRANGE, Broken, Posing, RaisingTestCase, Same, shown
from working import Refused, Work

PAY = "kind pay a b\n  unlike a b\n  add m[a] -5\n  add m[b] 5\nend"
BOTH = "kind both c d\n  read m[c] x\n  read m[d] y\nend"
SYSTEM = parse_system(PAY + "\n" + BOTH)
WHOLE = Cutting.whole(SYSTEM)
TWO = ("pay", (1, 2), (), None)
READS = ("both", (1, 2), (), None)
ALONE = """kind {} a
  alone
  choose
    put own[a] a
  or
  end
  check x
  read m[a] x
  read m[7] y
end"""
ONES = parse_system(ALONE.format("one") + "\n" + ALONE.format("two") + "\nkind all a\n  put m[a] 1\nend")
# The alone calls are cut behind their choose, which may have no deed, and behind their check.
CUT = Cutting(
    parse_system(format_system(ONES).replace("put own[a] a", "read own[a] z")),
    [(name, position) for name in ("one", "two") for position in (1, 2)],
)


def engine_of(cutting, *calls, store=None):
    engine = Engine(cutting, store)
    for call in calls:
        engine.begin(call)
    return engine


def told(engine):
    return (engine.store, engine.marks, engine.run.row, engine.locks, engine.able(), engine.is_over)


class EngineTestCase(RaisingTestCase):
    def is_refused(self, engine, error, number, function, *arguments, attribute="value"):
        """A move that is refused leaves the engine as it was."""
        before = (told(engine), engine.copy())
        self.raises(error, number, function, *arguments, attribute=attribute)
        self.assertEqual(told(engine), before[0])
        self.assertIs(engine == before[1], True)

    def is_not_open(self, engine, number):
        self.is_refused(engine, NotOpen, number, engine.commit, number, attribute="number")

    def ends(self, engine):
        """A copy of the engine ends all calls; its run is timely and has an order."""
        other = engine.copy()
        self.assertIsNone(other.finish())
        self.assertEqual([other.is_over, other.able(), other.locks], [True, [], []])
        self.assertEqual([other.run.is_over, other.run.is_timely], [True, True])
        self.assertIs(is_order(other.run, order(other.run)), True)
        self.assertEqual(other.run(engine.first_store)[0], other.store)
        return other


class TestByHand(EngineTestCase):
    def test_the_example(self):
        engine = Engine(WHOLE)
        begun = [engine.begin(TWO), engine.begin(READS)]
        found = [begun, engine.lock(0), engine.lock(1), engine.commit(0), engine.lock(1), engine.commit(1)]
        self.assertEqual([*found, engine.marks[1]], [[0, 1], (), (0,), True, (), True, (1, {"x": -5, "y": 5})])

    def test_by_name(self):
        engine = Engine(store={("m", 1): 3}, cutting=WHOLE)
        self.assertEqual(engine.begin(call=TWO), 0)
        self.assertEqual([engine.lock(number=0), engine.leave(number=0), engine.lock(number=0)], [(), None, ()])
        self.assertIs(engine.commit(number=0), True)
        self.assertEqual(engine.store, {("m", 1): -2, ("m", 2): 5})

    def test_a_new_one(self):
        for store, expected in ((None, {}), ({}, {}), ({("m", 1): 0, ("s", -3): LARGE}, {("s", -3): LARGE})):
            engine = Engine(WHOLE, store)
            self.assertEqual(told(engine), (expected, [], (), [], [], True))
            self.assertEqual(engine.run, Run(WHOLE, ()))
            self.assertIs(type(engine.run), Run)
            self.assertEqual(engine.cutting, WHOLE)
            self.assertIsNone(engine.finish())
            self.assertIsNone(engine.crash())

    def test_locks_in_the_order_of_the_items(self):
        system = parse_system(
            "kind pay a\n  put m[a] 1\n  put m[-1] 1\n  put a[9] 1\n  put m[10] 1\n  put a[9] 2\nend\n" + BOTH
        )
        engine = engine_of(Cutting.whole(system), ("pay", (2,), (), None), ("both", (10, -1), (), None))
        self.assertEqual(engine.lock(1), ())
        self.assertEqual(engine.locks, [(("m", -1), 1), (("m", 10), 1)])
        self.assertEqual(engine.lock(0), (1,))
        self.assertEqual(engine.locks, [(("a", 9), 0), (("m", -1), 1), (("m", 10), 1)])
        engine.leave(1)
        self.assertEqual(engine.lock(0), ())
        items = [("a", 9), ("m", -1), ("m", 2), ("m", 10)]
        self.assertEqual(engine.locks, [(item, 0) for item in items])

    def test_waiting_at_the_second_item(self):
        engine = engine_of(WHOLE, READS, ("both", (3, 2), (), None), TWO, ("pay", (2, 3), (), None))
        self.assertEqual(engine.lock(1), ())
        # The pays hold the first item, in ways that commute, and wait at the second one.
        self.assertEqual([engine.lock(2), engine.lock(3)], [(1,), (1,)])
        self.assertEqual(engine.locks, [(("m", 1), 2), (("m", 2), 1), (("m", 3), 1)])
        self.assertEqual(engine.lock(0), (2,))
        self.assertEqual(engine.able(), [1])
        for number in (0, 2, 3):
            self.is_not_open(engine, number)
        self.assertIs(engine.commit(1), True)
        self.assertEqual(engine.locks, [(("m", 1), 2)])
        self.assertEqual([engine.lock(2), engine.lock(3), engine.lock(0)], [(), (), (2,)])
        self.assertEqual(engine.locks, [(("m", 1), 2), (("m", 2), 2), (("m", 2), 3), (("m", 3), 3)])
        self.assertEqual([engine.commit(3), engine.lock(0), engine.commit(2), engine.lock(0)], [True, (2,), True, ()])
        self.assertEqual([engine.commit(0), engine.run.row, engine.is_over], [True, (1, 3, 2, 0), True])
        self.assertEqual(engine.marks[0], (1, {"x": -5, "y": 0}))

    def test_several_that_hold_one_item(self):
        engine = engine_of(WHOLE, *[("both", (1, at), (), None) for at in (2, 3, 4)], ("pay", (1, 9), (), None))
        self.assertEqual([engine.lock(2), engine.lock(0), engine.lock(3)], [(), (), (0, 2)])
        self.assertEqual([engine.leave(0), engine.lock(3), engine.leave(2), engine.lock(3)], [None, (2,), None, ()])
        self.assertEqual([engine.lock(number) for number in range(3)], [(3,), (3,), (3,)])
        self.assertEqual(engine.locks, [(("m", 1), 3), (("m", 9), 3)])

    def test_deeds_that_commute_on_one_item(self):
        deeds = ["add m[0] 1", "raise m[0] 5", "lower m[0] 5", "put m[0] 5", "put m[0] 6", "put m[0] a", "read m[0] x"]
        for one, other in itertools.product(deeds, repeat=2):
            system = parse_system(f"kind one a\n  {one}\nend\nkind two a\n  {other}\nend")
            engine = engine_of(Cutting.whole(system), ("one", (1,), (), None), ("two", (1,), (), None))
            with self.subTest(one=one, other=other):
                alike = one == other and one != "put m[0] a"
                self.assertEqual([engine.lock(0), engine.lock(1)], [(), () if alike else (0,)])
                self.assertEqual(len(engine.locks), 2 if alike else 1)

    def test_one_item_with_several_deeds(self):
        system = parse_system("kind pay\n  add m[0] 1\n  choose\n    read m[0] x\n  or\n  end\nend")
        calls = [("pay", (), (side,), None) for side in (1, 1, 0)]
        engine = engine_of(Cutting.whole(system), *calls)
        self.assertEqual([engine.lock(0), engine.lock(1), engine.lock(2)], [(), (), (0, 1)])
        engine.crash()
        self.assertEqual([engine.lock(2), engine.lock(0), engine.lock(1)], [(), (2,), (2,)])

    def test_pieces_without_deeds(self):
        system = parse_system("kind pay a\n  choose\n    put m[a] 1\n  or\n  end\n  check x\n  put m[a] 2\nend")
        engine = engine_of(Cutting.whole(system), ("pay", (1,), (1,), 1), ("pay", (1,), (0,), None))
        self.assertEqual(engine.lock(1), ())
        self.assertEqual([engine.able(), engine.lock(0), engine.commit(0)], [[0, 1], (), True])
        self.assertEqual([engine.locks, engine.run.row], [[(("m", 1), 1)], (0,)])
        single = finest(
            parse_system("kind pay a\n  choose\n    read m[a] x\n  or\n  end\n  check x\n  read s[a] y\nend")
        )
        self.assertEqual(len(single), 2)
        engine = engine_of(single, ("pay", (1,), (1,), None))
        # Neither the choose nor the check is locked for.
        self.assertEqual([engine.commit(0), engine.commit(0)], [False, False])
        self.is_not_open(engine, 0)
        self.assertEqual([engine.lock(0), engine.commit(0), engine.is_over], [(), True, True])

    def test_calls_that_stop_and_back_pieces(self):
        text = "kind pay a\n  backs\n  add m[a] 3\n  add s[a] 4\n  check x\n  put t[a] 1\nend\nkind look a\n  read t[a] x\nend"
        cutting = Cutting(parse_system(text), [("pay", 1), ("pay", 2)])
        engine = engine_of(cutting, ("pay", (1,), (), 2), ("pay", (1,), (), None), store={("m", 1): 1})
        self.assertEqual([engine.lock(0), engine.commit(0), engine.lock(0), engine.commit(0)], [(), False, (), False])
        self.assertEqual(engine.store, {("m", 1): 4, ("s", 1): 4})
        # It stops: no locks; then the adds are taken back, the last one first.
        self.assertEqual([engine.commit(0), engine.locks, engine.marks[0]], [False, [], (3, {})])
        self.is_not_open(engine, 0)
        self.assertEqual([engine.lock(0), engine.locks], [(), [(("s", 1), 0)]])
        engine >>= 1
        self.assertEqual([engine.commit(0), engine.store], [False, {("m", 1): 7}])
        engine.crash()
        self.assertEqual([engine.lock(0), engine.commit(0), engine.marks], [(), True, [(5, {}), (1, {})]])
        self.assertEqual([engine.store, engine.run.row], [{("m", 1): 4}, (0, 0, 0, 1, 0, 0)])
        self.ends(engine)

    def test_what_was_added_is_taken_back(self):
        # The value that was added depends on what was read: it is taken back as it was.
        text = "kind pay a\n  backs\n  read t[0] x\n  add m[a] 2 * x\n  check y\n  check z\nend\nkind more\n  add t[0] 1\nend"
        cutting = Cutting(parse_system(text), [("pay", 2), ("pay", 3)])
        engine = engine_of(cutting, ("pay", (1,), (), 3), ("more", (), (), None), store={("t", 0): 5})
        engine >>= 0
        self.assertEqual(engine.store, {("t", 0): 5, ("m", 1): 10})
        engine >>= 1
        for _ in range(4):
            engine >>= 0
        self.assertEqual([engine.store, engine.marks[0]], [{("t", 0): 6}, (5, {"x": 5})])

    def test_what_is_taken_back_from_a_value_of_0(self):
        text = "kind pay a\n  backs\n  add m[a] 5\n  check x\nend\nkind more\n  add m[1] -5\nend"
        cutting = Cutting(parse_system(text), [("pay", 1)])
        engine = engine_of(cutting, ("pay", (1,), (), 1), ("more", (), (), None))
        engine >>= 0
        engine >>= 1
        self.assertEqual(engine.store, {})
        for other in (self.ends(engine), self.ends(engine.copy()), self.ends(engine.copy().copy())):
            self.assertEqual([other.store, other.run.row], [{("m", 1): -5}, (0, 1, 0, 0)])


class TestAlone(EngineTestCase):
    def test_with_deeds(self):
        engine = engine_of(Cutting.whole(ONES), *[(name, (1,), (0,), None) for name in ("one", "two", "one")])
        self.assertEqual([engine.able(), engine.lock(1), engine.able()], [[0, 1, 2], (), [1]])
        self.assertEqual([engine.lock(0), engine.lock(2), engine.lock(1)], [(1,), (1,), ()])
        self.is_not_open(engine, 0)
        engine.leave(1)
        self.assertEqual([engine.able(), engine.lock(2), engine.lock(0), engine.lock(1)], [[0, 1, 2], (), (2,), (2,)])
        self.assertEqual([engine.commit(2), engine.able(), engine.lock(0)], [True, [0, 1], ()])

    def test_that_holds_a_part(self):
        call = ("all", (1,), (), None)
        engine = engine_of(Cutting.whole(ONES), ("one", (1,), (0,), None), call, ("two", (5,), (0,), None))
        self.assertEqual([engine.lock(1), engine.lock(0), engine.locks], [(), (1,), [(("m", 1), 1)]])
        # It waits at its first item, and holds nothing: the other one may go ahead.
        self.assertEqual([engine.able(), engine.lock(2)], [[1, 2], ()])
        self.assertEqual([engine.lock(0), engine.commit(2), engine.lock(0)], [(2,), True, (1,)])
        engine = engine_of(
            Cutting.whole(ONES), ("one", (1,), (0,), None), ("all", (7,), (), None), ("two", (5,), (0,), None)
        )
        self.assertEqual([engine.lock(1), engine.lock(0)], [(), (1,)])
        self.assertEqual(engine.locks, [(("m", 1), 0), (("m", 7), 1)])
        self.assertEqual([engine.lock(2), engine.able()], [(0,), [1]])
        engine >>= 1
        self.assertEqual([engine.able(), engine.lock(2)], [[0], (0,)])

    def test_without_deeds_in_the_first_piece(self):
        engine = engine_of(CUT, ("one", (1,), (1,), None), ("two", (1,), (1,), None), ("two", (2,), (0,), None))
        self.assertEqual([engine.lock(0), engine.lock(1), engine.locks], [(), (), []])
        self.assertEqual(engine.commit(1), False)
        # What was told ahead is no longer so.
        self.is_not_open(engine, 0)
        self.assertEqual([engine.lock(0), engine.lock(2), engine.able()], [(1,), (1,), [1]])
        self.is_not_open(engine, 2)
        engine.crash()
        self.assertEqual([engine.lock(0), engine.able()], [(1,), [1]])
        self.assertEqual([engine.commit(1), engine.lock(1), engine.lock(0)], [False, (), (1,)])
        engine.leave(1)
        # It has done a piece, so that the others wait, whatever it holds.
        self.assertEqual([engine.lock(0), engine.lock(1), engine.commit(1), engine.able()], [(1,), (), True, [0, 2]])
        self.assertEqual([engine.lock(2), engine.lock(0)], [(), (2,)])
        self.is_not_open(engine, 0)
        engine.leave(2)
        self.assertEqual([engine.commit(0), engine.lock(2), engine.able()], [False, (0,), [0]])
        other = self.ends(engine)
        self.assertEqual(other.run.row, (1, 1, 1, 0, 0, 0, 2, 2, 2))

    def test_one_that_holds_locks_ahead_of_one_without_deeds(self):
        engine = engine_of(CUT, ("one", (1,), (0,), None), ("two", (1,), (1,), None))
        self.assertEqual([engine.lock(1), engine.lock(0), engine.locks], [(), (), [(("own", 1), 0)]])
        self.is_not_open(engine, 1)
        self.assertEqual([engine.able(), engine.lock(1)], [[0], (0,)])
        engine.crash()
        self.assertEqual([engine.able(), engine.commit(1), engine.able()], [[0, 1], False, [1]])

    def test_one_that_stops_in_its_first_piece(self):
        engine = engine_of(Cutting.whole(ONES), ("one", (1,), (0,), 1), ("two", (1,), (0,), None))
        self.assertEqual([engine.lock(1), engine.lock(0)], [(), (1,)])
        self.is_not_open(engine, 0)
        engine.crash()
        self.assertEqual([engine.commit(0), engine.lock(1)], [True, ()])

    def test_others_do_not_wait(self):
        engine = engine_of(CUT, ("one", (1,), (0,), None), ("all", (9,), (), None))
        self.assertEqual([engine.lock(0), engine.commit(0)], [(), False])
        self.assertEqual([engine.lock(1), engine.commit(1)], [(), True])


class TestMoves(EngineTestCase):
    def test_no_calls(self):
        engine = engine_of(WHOLE, TWO, READS)
        engine >>= 0
        for number in (*STRANGE, 2, -1, 40, LARGE, "0", (0,), [0], 0.0, True, False, Same(), Broken()):
            for function in (engine.lock, engine.commit, engine.leave, lambda number: engine.__irshift__(number)):
                self.is_refused(engine, UnknownCall, number, function, number)
        for function in (engine.lock, engine.commit, engine.leave, lambda number: engine.__irshift__(number)):
            self.is_refused(engine, NoPiece, 0, function, 0, attribute="number")
        engine.lock(1)
        self.is_refused(engine, UnknownCall, True, engine.commit, True)

    def test_begin_refused(self):
        engine = engine_of(WHOLE, TWO)
        for call in (*STRANGE, 0, (), TWO[:3], list(TWO), ("pay", (1, 1), (), None), ("pay", (1, True), (), None)):
            self.is_refused(engine, InvalidCall, call, engine.begin, call)
        for call in (("look", (1, 2), (), None), ("pay", (1, 2), (0,), None), ("pay", (1, 2), (), 0), TWO + (None,)):
            self.is_refused(engine, InvalidCall, call, engine.begin, call)

    def test_the_41st_call(self):
        engine = engine_of(WHOLE, *[TWO] * 39)
        self.assertEqual(engine.begin(READS), 39)
        for _ in range(2):
            self.is_refused(engine, InvalidCall, None, engine.begin, None)
            with self.assertRaises(TooMany) as caught:
                engine.begin(TWO)
            self.assertEqual(caught.exception.limit, 40)
            engine.finish()
        self.assertEqual([len(engine.marks), engine.run.row], [40, tuple(range(40))])
        # Also when all of them are over.
        self.assertRaises(TooMany, engine.begin, READS)

    def test_commit_of_what_is_not_open(self):
        engine = engine_of(WHOLE, READS, TWO)
        self.is_not_open(engine, 0)
        engine.lock(0)
        self.assertEqual(engine.lock(1), (0,))
        self.is_not_open(engine, 1)
        engine.leave(0)
        self.is_not_open(engine, 0)
        self.is_not_open(engine, 1)
        self.assertEqual([engine.lock(1), engine.commit(1)], [(), True])

    def test_in_place(self):
        engine = engine_of(WHOLE, READS, ("both", (3, 2), (), None), TWO)
        same = engine
        engine.lock(1)
        for _ in range(2):
            with self.assertRaises(NotOpen) as caught:
                engine >>= 2
            self.assertEqual(caught.exception.number, 2)
            self.assertIs(engine, same)
            # It took no lock, not even that of the first item.
            self.assertEqual(engine.locks, [(("m", 2), 1), (("m", 3), 1)])
        self.assertEqual(engine.lock(2), (1,))
        with self.assertRaises(NotOpen):
            engine >>= 2
        self.assertEqual(engine.locks, [(("m", 1), 2), (("m", 2), 1), (("m", 3), 1)])
        engine >>= 1
        self.assertIs(engine, same)
        engine >>= 2
        self.assertIs(engine, same)
        self.assertEqual([engine.run.row, engine.locks], [(1, 2), []])

    def test_leave_and_crash(self):
        engine = engine_of(WHOLE, READS, ("pay", (2, 1), (), None), ("both", (3, 4), (), None))
        self.assertIsNone(engine.leave(0))
        self.assertEqual([engine.lock(1), engine.lock(2)], [(), ()])
        self.assertIsNone(engine.leave(1))
        self.assertEqual(engine.locks, [(("m", 3), 2), (("m", 4), 2)])
        self.assertEqual(engine.lock(0), ())
        self.assertIsNone(engine.crash())
        self.assertEqual([engine.locks, engine.able()], [[], [0, 1, 2]])
        self.is_not_open(engine, 0)
        other = self.ends(engine)
        self.assertEqual(other.run.row, (0, 1, 2))

    def test_crash_keeps_store_and_marks(self):
        cutting = finest(parse_system("kind pay a b\n  add m[a] -1\n  read s[a] x\n  add m[b] x\nend"))
        self.assertEqual(len(cutting), 2)
        engine = engine_of(cutting, ("pay", (1, 2), (), None), ("pay", (2, 1), (), None), store={("s", 1): 9})
        for moves in ((), (0,), (0, 0), (0, 1, 0), (1, 0, 1)):
            for number in moves:
                if engine.run.left(number) > 0:
                    engine >>= number
            for number in engine.able():
                engine.lock(number)
            before = told(engine)
            other = engine.copy()
            other.crash()
            self.assertEqual((told(other)[:4], other.is_over), ((*before[:3], []), before[5]))
            self.assertEqual(self.ends(other).store, {("s", 1): 9, ("m", 1): -1, ("m", 2): 8})
            engine.crash()
            self.assertEqual(told(engine), told(other))

    def test_finish_takes_the_first_that_can_get_all_locks(self):
        engine = engine_of(WHOLE, READS, TWO, ("both", (5, 6), (), None))
        self.assertEqual(engine.lock(1), ())
        other = self.ends(engine)
        self.assertEqual(other.run.row, (1, 0, 2))
        engine = engine_of(
            WHOLE,
            ("both", (1, 1), (), None),
            ("pay", (1, 3), (), None),
            ("both", (3, 4), (), None),
            ("both", (9, 9), (), None),
        )
        self.assertEqual([engine.lock(2), engine.lock(1)], [(), (2,)])
        # The first waits for the second, the second for the third.
        self.assertEqual([engine.lock(0), engine.able()], [(1,), [2, 3]])
        self.assertEqual(self.ends(engine).run.row, (2, 1, 0, 3))


class TestCopies(EngineTestCase):
    def start(self):
        cutting = finest(
            parse_system(
                "kind pay a b\n  backs\n  add m[a] -1\n  check x\n  add m[b] 1\nend\n" + BOTH.replace("m[", "n[")
            )
        )
        self.assertEqual(cutting.cuts, (("both", 1), ("pay", 1), ("pay", 2)))
        engine = engine_of(
            cutting, ("pay", (1, 2), (), 1), ("both", (3, 4), (), None), ("pay", (1, 1), (), None), store={("n", 3): 1}
        )
        engine >>= 0
        engine >>= 1
        engine.lock(2)
        return engine

    def test_changed_beside_each_other(self):
        engine = self.start()
        before = told(engine)
        moves = (
            lambda other: other.crash(),
            lambda other: other.leave(2),
            lambda other: other.lock(1),
            lambda other: other.commit(2),
            lambda other: other.commit(0),
            lambda other: other.finish(),
            lambda other: other.begin(("both", (1, 2), (), None)),
            lambda other: other.__irshift__(1),
        )
        for move in moves:
            other = engine.copy()
            self.assertIs(type(other), Engine)
            self.assertIsNot(other, engine)
            self.assertEqual([other == engine, other != engine, told(other) == before], [True, False, True])
            move(other)
            self.assertEqual([other == engine, told(engine) == before], [False, True])
            third = other.copy()
            self.assertEqual([third == other, third.cutting == engine.cutting], [True, True])
            self.assertEqual(self.ends(other), self.ends(third))
        # And the other way round: a copy does not follow the engine.
        other = engine.copy()
        engine.finish()
        self.assertEqual([told(other) == before, other == engine], [True, False])
        other.finish()
        self.assertIs(other == engine, True)

    def test_one_difference(self):
        def at(cutting=WHOLE, store=None, calls=(TWO, READS), row=(0,), locked=(1,)):
            engine = engine_of(cutting, *calls, store=store)
            for number in row:
                engine >>= number
            for number in locked:
                engine.lock(number)
            return engine

        engine = at()
        self.assertIs(engine == at(), True)
        self.assertIs(engine != at(), False)
        self.assertIs(engine == at(store={}), True)
        self.assertIs(engine == at(store={("m", 1): 0}), True)
        others = [at(store={("m", 9): 1}), at(calls=(TWO, READS, READS)), at(row=()), at(locked=())]
        others.append(at(cutting=Cutting.whole(parse_system(BOTH + "\n" + PAY))))
        others.append(at(calls=(("pay", (1, 3), (), None), READS)))
        others.append(at(calls=(TWO, ("both", (1, 3), (), None))))
        for other in others:
            self.assertIs(engine == other, False)
            self.assertIs(engine != other, True)

    def test_the_store_at_the_beginning(self):
        system = parse_system("kind pay\n  put m[0] 1\nend")
        one, other = [
            engine_of(Cutting.whole(system), ("pay", (), (), None), store=store) for store in (None, {("m", 0): 5})
        ]
        one.finish()
        other.finish()
        self.assertEqual([one.store, one.run == other.run], [other.store, True])
        self.assertIs(one == other, False)

    def test_other_objects(self):
        engine = self.start()
        look = {name: getattr(engine, name) for name in ("cutting", "store", "run", "marks", "locks", "is_over")}
        for value in (
            *STRANGE,
            0,
            Engine,
            engine.run,
            engine.cutting,
            types.SimpleNamespace(**look),
            Posing(Engine, **vars(engine)),
        ):
            with self.subTest(shown(value)):
                self.assertIs(engine == value, False)
                self.assertIs(engine != value, True)

    def test_new_each_time(self):
        engine = self.start()
        before = told(engine)
        for _ in range(2):
            engine.store.clear()
            engine.marks.clear()
            engine.marks[0][1]["x"] = 5
            engine.locks.clear()
            engine.able().clear()
            self.assertEqual([type(engine.store), type(engine.marks), type(engine.locks)], [dict, list, list])
            self.assertEqual(told(engine), before)
        self.assertEqual(type(engine.lock(2)), tuple)

    def test_stores_that_change_later(self):
        store = {("m", 1): 5}
        engine = engine_of(WHOLE, TWO, store=store)
        other = engine_of(WHOLE, TWO, store={("m", 1): 5})
        store[("m", 1)] = 7
        store[("m", 2)] = 7
        self.assertEqual([engine.store, engine == other], [{("m", 1): 5}, True])
        engine.finish()
        self.assertEqual([engine.store, store], [{("m", 2): 5}, {("m", 1): 7, ("m", 2): 7}])


class TestErrors(EngineTestCase):
    def test_cuttings(self):
        look = {"system": SYSTEM, "cuts": ()}
        wrong = [Cutting(SYSTEM, [("pay", 1)]), Cutting.single(SYSTEM)]
        for value in (*STRANGE, 0, SYSTEM, Cutting, Posing(Cutting, **look), types.SimpleNamespace(**look), *wrong):
            for store in (None, {}, [], Broken()):
                self.raises(InvalidCutting, value, Engine, value, store)

    def test_stores(self):
        others = [value for value in STRANGE if value is not None and type(value) is not dict]
        others.extend([0, "", (), [(("m", 1), 5)], {"a": 1}, {("m", 1): True}, {("m", 1): 1.0}, {("m", True): 1}])
        others.extend([{("m", "a"): 1}, {("none", 1): 1}, {("m", 1, 1): 1}, {("m", 1): None}, {("M", 1): 1}, {1: 1}])
        for value in others:
            self.raises(InvalidStore, value, Engine, WHOLE, value)


class TestAgainstTheModel(EngineTestCase):
    """All moves from all states, against a plain model of the document."""

    def move(self, thing, word, number):
        if word == "crash":
            return thing.crash()
        if word == "go":
            return thing.go(number) if type(thing) is Work else (thing.__irshift__(number), None)[1]
        return getattr(thing, word)(number)

    def tries(self, thing, word, number):
        """What a move returns, or the error that it raises."""
        try:
            return ("returned", self.move(thing, word, number))
        except Refused as error:
            return ("raised", str(error), number)
        except UnknownCall as error:
            return ("raised", "UnknownCall", error.value)
        except (NoPiece, NotOpen) as error:
            return ("raised", type(error).__name__, error.number)

    def compare(self, engine, work):
        self.assertEqual(told(engine), work.told())
        self.assertEqual(engine.run, Run(work.cutting, tuple(work.calls), tuple(work.row)))
        self.assertTrue(engine.is_over or engine.able())

    def all_states(self, cutting, calls, store, most):
        """Goes through all states that can be reached; returns how many there are."""
        engine, work = engine_of(cutting, *calls, store=store), Work(cutting, store, calls)
        words = [(word, number) for word in ("lock", "commit", "leave", "go") for number in range(len(calls) + 1)]
        seen, fresh = {work.state()}, [(engine, work)]
        while fresh and len(seen) < most:
            engine, work = fresh.pop(0)
            self.compare(engine, work)
            finished, expected = self.ends(engine), work.copy()
            expected.finish()
            self.compare(finished, expected)
            for word, number in (*words, ("crash", None)):
                other, model = engine.copy(), work.copy()
                self.assertEqual(self.tries(other, word, number), self.tries(model, word, number), (word, number))
                if model.state() not in seen:
                    seen.add(model.state())
                    fresh.append((other, model))
                else:
                    self.assertEqual((other.run.row, frozenset(other.locks)), model.state())
        return len(seen)

    def test_by_hand(self):
        for cutting, calls in (
            (WHOLE, (TWO, READS, ("pay", (2, 1), (), None))),
            (CUT, (("one", (1,), (1,), None), ("two", (1,), (0,), None))),
            (CUT, (("one", (1,), (1,), 1), ("all", (1,), (), None), ("two", (1,), (1,), None))),
            (Cutting.whole(ONES), (("one", (1,), (0,), None), ("two", (7,), (0,), 1), ("all", (7,), (), None))),
        ):
            self.assertGreater(self.all_states(cutting, calls, {("m", 1): 2}, 300), 10)

    def test_drawn_systems(self):
        sizes = 0
        for seed in range(60):
            source = random.Random(seed)
            system = SmallMaker(source, kinds=3).system()
            cutting = finest(system)
            calls = []
            for _ in range(3):
                name, values, choices, _ = source.choice(list(naive.whole_calls(system, (0, 1, 2))))
                stops = [None, *system[name].checks]
                calls.append((name, values, choices, source.choice(stops)))
            store = {(table, index): source.choice((-2, 0, 3)) for table in "mst" for index in range(3)}
            with self.subTest(format_system(system), calls=calls):
                sizes += self.all_states(cutting, calls, store, 40)
        self.assertGreater(sizes, 1000)

    def test_drawn_moves(self):
        """Longer rows of moves with more calls of larger kinds, begun at any time."""
        committed = 0
        for seed in range(150):
            source = random.Random(seed)
            maker = Maker(source)
            system = System(maker.system().kinds, 100)
            cutting = finest(system)
            store = {(table, index): source.choice((-2, 0, 3)) for table in "mst" for index in range(4)}
            engine, work = Engine(cutting, store), Work(cutting, store)
            for _ in range(40):
                word = source.choice(("begin", "lock", "lock", "commit", "commit", "leave", "go", "go", "crash"))
                if word == "begin" and len(work.calls) < 6:
                    call = maker.call(source.choice(system.kinds))
                    if call is not None:
                        self.assertEqual(engine.begin(call), len(work.calls))
                        work.calls.append(call)
                elif word != "begin" and (word != "crash" or source.random() < 0.3):
                    number = source.randint(0, len(work.calls))
                    self.assertEqual(self.tries(engine, word, number), self.tries(work, word, number))
            with self.subTest(seed=seed):
                self.compare(engine, work)
                committed += len(work.row)
                self.ends(engine)
        self.assertGreater(committed, 300)


class TestLargest(EngineTestCase):
    def test_in_a_short_time(self):
        begun = time.monotonic()
        for alone in ((), ("pay", "look")):
            system = largest_system(alone, check=True)
            engine = Engine(Cutting.whole(system))
            for at in range(40):
                kind = system.kinds[at - at // 5 * 5]
                engine.begin((kind.name, tuple(range(20 + at, 24 + at)), (at & 1,) * len(kind.chooses), None))
            for number in range(40):
                engine.lock(number)
            self.ends(engine)
        system = parse_system("kind pay a\n" + "\n".join(f"  add t{'abcdefgh'[at]}[a] 1" for at in range(8)) + "\nend")
        engine = engine_of(finest(system), *[("pay", (at,), (), None) for at in range(40)])
        self.assertEqual(len(self.ends(engine).run.row), 320)
        self.assertLess(time.monotonic() - begun, 30)


if __name__ == "__main__":
    unittest.main()
