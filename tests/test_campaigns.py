"""Points 2 and 45: how many rows are without an order, and with which stores they end."""

import random
import time
import types
import unittest

import naive
import slowly
from finestcuts.campaigns import share, stores
from finestcuts.cuttings import Cutting
from finestcuts.errors import InvalidCall, InvalidCutting, InvalidStore, TooMany
from finestcuts.finest import finest, is_right
from finestcuts.kinds import Kind
from finestcuts.orders import order
from finestcuts.runs import Run, all_rows
from finestcuts.systems import System
from finestcuts.texts import format_system, parse_system
from making import Maker, SmallMaker
from objects import LARGE, STRANGE, Broken, Posing, RaisingTestCase, shown

PAY = "kind pay a b\n  unlike a b\n  add m[a] -5\n  add m[b] 5\nend"
BOTH = "kind both c d\n  read m[c] x\n  read m[d] y\nend"
SYSTEM = parse_system(PAY + "\n" + BOTH)
CUTTING = Cutting(SYSTEM, [("pay", 1)])
CALLS = (("pay", (1, 2), (), None), ("both", (1, 2), (), None))


def steps_kind(name, many, alone=False):
    """A kind of so many steps that commute with all others."""
    return Kind(name, (), tuple(("add", ("m", at), ("sum", 1, ())) for at in range(many)), alone=alone)


def pieces_of(*counts, alone=()):
    """A cutting and calls of so many pieces each."""
    kinds = {f"k{'abcdefgh'[many]}": many for many in counts}
    names = {many: name for name, many in kinds.items()}
    sizes = [steps_kind(name, many) for name, many in kinds.items()]
    sizes.extend([steps_kind(f"o{'abcdefgh'[many]}", many, True) for many in sorted(set(alone))])
    calls = [(names[many], (), (), None) for many in counts]
    calls.extend([(f"o{'abcdefgh'[many]}", (), (), None) for many in alone])
    return Cutting.single(System(tuple(sizes))), tuple(calls)


class CampaignTestCase(RaisingTestCase):
    def check(self, cutting, calls, store):
        """The numbers are those of all rows, gone through one by one."""
        rows, met = naive.rows_of(cutting, calls), naive.meetings(cutting, calls)
        ringed = [naive.has_ring(naive.arrows_in(row, met), len(calls)) for row in rows]
        ends = {}
        for row in rows:
            after = tuple(sorted(naive.run_over(cutting, calls, row, store)[0].items()))
            ends[after] = ends.get(after, 0) + 1
        kept = dict(store)
        for _ in range(2):
            self.assertEqual(share(cutting, calls), (sum(ringed), len(rows)))
            found = stores(cutting, calls, store)
            self.assertEqual(found, ends)
            self.assertIs(type(found), dict)
            found.clear()
        self.assertEqual(store, kept)
        return sum(ringed), len(rows), len(ends)

    def many_rows(self, expected, *counts, alone=()):
        """There are so many rows, or too many of them."""
        cutting, calls = pieces_of(*counts, alone=alone)
        self.assertEqual(len(calls), len(counts) + len(alone))
        if expected <= 200000:
            self.assertEqual(share(cutting, calls), (0, expected))
            self.assertEqual(list(stores(cutting, calls, {}).values()), [expected])
            return
        for function, more in ((share, ()), (stores, ({},))):
            with self.assertRaises(TooMany) as caught:
                function(cutting, calls, *more)
            self.assertEqual(caught.exception.limit, 200000)


class TestExample(CampaignTestCase):
    def test_the_example(self):
        found = [share(CUTTING, CALLS), stores(CUTTING, CALLS, {})]
        self.assertEqual(found, [(1, 3), {((("m", 1), -5), (("m", 2), 5)): 3}])
        self.check(CUTTING, CALLS, {})

    def test_by_name(self):
        self.assertEqual(share(calls=CALLS, cutting=CUTTING), (1, 3))
        self.assertEqual(stores(store={}, calls=(), cutting=CUTTING), {(): 1})


class TestByHand(CampaignTestCase):
    def test_no_calls(self):
        self.assertEqual(share(CUTTING, ()), (0, 1))
        for store in ({}, {("m", 1): 0}):
            self.assertEqual(stores(CUTTING, (), store), {(): 1})
        self.assertEqual(
            stores(CUTTING, (), {("m", 2): 1, ("a", 9): 2, ("m", 1): 0}), {((("a", 9), 2), (("m", 2), 1)): 1}
        )

    def test_values_of_zero(self):
        store = {("m", 1): 5, ("m", 2): -5, ("m", 3): 0, ("a", 0): 0}
        self.assertEqual(stores(CUTTING, CALLS, store), {(): 3})
        self.assertEqual(store, {("m", 1): 5, ("m", 2): -5, ("m", 3): 0, ("a", 0): 0})
        self.assertEqual(stores(CUTTING, CALLS[:1], store), {(): 1})
        self.assertEqual(stores(CUTTING, CALLS[1:], store), {((("m", 1), 5), (("m", 2), -5)): 1})

    def test_lost_changes(self):
        system = parse_system("kind pay\n  read m[0] x\n  put m[0] x + 1\nend")
        calls = (("pay", (), (), None),) * 3
        single = Cutting.single(system)
        self.assertEqual(share(single, calls), (90 - 6, 90))
        found = stores(single, calls, {("m", 0): 4})
        self.assertEqual(sorted(found), [((("m", 0), value),) for value in (5, 6, 7)])
        self.assertEqual(found[((("m", 0), 7),)], 6)
        self.assertEqual(self.check(single, calls, {("m", 0): 4}), (84, 90, 3))
        self.assertEqual(self.check(Cutting.whole(system), calls, {}), (0, 6, 1))

    def test_calls_that_stop(self):
        text = "kind pay\n  backs\n  add m[0] 1\n  read m[0] x\n  add s[0] x\n  check a\n  add m[0] x\n  check b\nend"
        system = parse_system(text + "\nkind look\n  read m[0] x\n  put t[0] x\nend")
        cutting = Cutting(system, [("pay", 2), ("pay", 3), ("pay", 5), ("look", 1)])
        for stops in ((3, None), (5, None), (3, 5), (None, None)):
            calls = tuple(("pay", (), (), stop) for stop in stops)
            self.check(cutting, calls, {("m", 0): 2})
            self.check(cutting, (*calls[:1], ("look", (), (), None)), {("s", 0): 2})
        self.check(cutting, (("pay", (), (), 5), ("look", (), (), None), ("look", (), (), None)), {("t", 0): 7})

    def test_alone_calls(self):
        text = "kind pay\n  alone\n  read m[0] x\n  put m[0] x + 1\nend\nkind look\n  read m[0] x\n  read m[0] y\nend"
        system = parse_system(text)
        single = Cutting.single(system)
        pay, look = ("pay", (), (), None), ("look", (), (), None)
        self.assertEqual(self.check(single, (pay, pay, pay), {}), (0, 6, 1))
        self.check(single, (pay, look, pay), {("m", 0): -1})
        self.check(single, (look, pay, look), {("m", 0): -1})


class TestAgainstAllRows(CampaignTestCase):
    def test_small_systems(self):
        found = []
        for seed in range(250):
            source = random.Random(seed)
            system = SmallMaker(source, kinds=3).system()
            cutting = Cutting(system, [cut for cut in Cutting.single(system) if source.random() < 0.8])
            able = list(slowly.all_calls(system, (0, 1, 2)))
            if source.random() < 0.7:
                # Few items, so that the calls meet more often.
                able = [call for call in able if len(set(call[1])) < 2 and 2 not in call[1]] or able
            calls = tuple(source.choice(able) for _ in range(source.choice((1, 2, 3, 3))))
            store = {(table, index): source.choice((0, 3, -2)) for table in "mst" for index in range(3)}
            with self.subTest(format_system(system), calls=calls):
                found.append(self.check(cutting, calls, store))
                if is_right(cutting):
                    self.assertEqual(found[-1][0], 0)
        self.assertGreater(len([row for row in found if 0 < row[0] < row[1]]), 10)
        self.assertGreater(len([row for row in found if row[2] > 1]), 10)

    def test_kinds_with_locals(self):
        found = 0
        for seed in range(200):
            source = random.Random(seed)
            maker = Maker(source)
            kinds = [
                Kind(kind.name, kind.parameters, kind.steps[:4], kind.unlike, kind.backs, kind.alone)
                for kind in maker.system().kinds
            ]
            system = System(tuple(kinds), 100)
            cutting = Cutting.single(system)
            made = [maker.call(source.choice(system.kinds)) for _ in range(source.choice((2, 3)))]
            calls = tuple(call for call in made if call is not None)
            if sum(len(naive.pieces_of(cutting, call)) for call in calls) > 8:
                continue
            store = {(table, index): source.choice((0, 3, -2)) for table in "mst" for index in range(8)}
            with self.subTest(seed=seed):
                found += self.check(cutting, calls, store)[1]
        self.assertGreater(found, 3000)

    def test_more_calls(self):
        """All rows as the package itself yields them, of more calls than the plain model can go through."""
        system = SYSTEM + parse_system("kind set e\n  read m[e] x\n  put m[e] 2 * x\nend")["set"]
        cutting = Cutting.single(system)
        calls = (*CALLS, ("set", (1,), (), None), ("set", (2,), (), None), ("set", (1,), (), None))[:4]
        ringed, ends = 0, {}
        for row in all_rows(cutting, calls):
            run = Run(cutting, calls, row)
            ringed += order(run) is None
            after = tuple(sorted(run({("m", 1): 3})[0].items()))
            ends[after] = ends.get(after, 0) + 1
        self.assertEqual(sum(ends.values()), 2520)
        self.assertEqual(share(cutting, calls), (ringed, 2520))
        self.assertEqual(stores(cutting, calls, {("m", 1): 3}), ends)


class TestHowMany(CampaignTestCase):
    def test_few_and_many_rows(self):
        for expected, counts in (
            (1, (7,)),
            (3432, (7, 7)),
            (40320, (1,) * 8),
            (362880, (1,) * 9),
            (113400, (2,) * 5),
            (133024320, (7, 7, 6)),
        ):
            self.many_rows(expected, *counts)

    def test_just_below_and_above_the_limit(self):
        self.many_rows(180180, 7, 6, 2)
        self.many_rows(184800, 3, 3, 3, 1, 1)
        self.many_rows(205920, 7, 3, 1, 1, 1)
        self.many_rows(210210, 6, 4, 4)
        self.many_rows(199584, 5, 1, 1, alone=(1, 2, 2))
        self.many_rows(198720, 2, alone=(4, 4, 4, 4, 4, 2))
        self.many_rows(201600, 2, 1, alone=(3, 3, 3, 3, 1))

    def test_alone_calls(self):
        self.many_rows(40320, alone=(3,) * 8)
        self.many_rows(362880, alone=(1,) * 9)
        # The alone calls in any order, and between their pieces those of the others.
        self.many_rows(6 * 20, 3, alone=(1, 1, 1))
        self.many_rows(2 * 330, 4, alone=(3, 4))
        self.many_rows(120 * 1287, 5, alone=(1, 1, 2, 2, 2))
        self.many_rows(120 * 2002, 5, alone=(1, 2, 2, 2, 2))
        for counts, alone in (((1, 2), (2, 1)), ((2,), (1, 1, 2)), ((), (2, 2)), ((2, 1), (3,))):
            cutting, calls = pieces_of(*counts, alone=alone)
            self.check(cutting, calls, {})

    def test_too_many_calls_of_one_piece_in_a_short_time(self):
        begun = time.monotonic()
        for many in (9, 20, 40):
            self.many_rows(10**6, *(1,) * many)
            self.many_rows(10**6, *(7,) * many)
        self.assertLess(time.monotonic() - begun, 5)

    def test_many_rows_in_a_short_time(self):
        begun = time.monotonic()
        system = parse_system("kind pay a\n  read m[0] x\n  put m[0] a + 3 * x\nend")
        calls = tuple(("pay", (at,), (), None) for at in range(8))
        self.assertEqual(share(Cutting.whole(system), calls), (0, 40320))
        found = stores(Cutting.whole(system), calls, {})
        self.assertEqual(sum(found.values()), 40320)
        single = Cutting.single(system)
        self.assertEqual(share(single, calls[:5]), (113400 - 120, 113400))
        self.assertEqual(sum(stores(single, calls[:5], {("m", 0): LARGE}).values()), 113400)
        reads = parse_system("kind look a b\n  read m[a] x\n  read m[b] y\nend\n" + PAY)
        calls = tuple(("look", (at, at + 1), (), None) for at in range(4)) + (("pay", (2, 3), (), None),)
        self.assertEqual(share(Cutting.single(reads), calls)[1], 113400)
        self.assertEqual(len(stores(Cutting.single(reads), calls, {})), 1)
        self.assertLess(time.monotonic() - begun, 20)

    def test_right_cuttings_have_no_ring(self):
        for seed in range(60):
            source = random.Random(seed)
            system = SmallMaker(source, kinds=3, steps=4).system()
            able = list(slowly.all_calls(system, (0, 1, 2)))
            calls = tuple(source.choice(able) for _ in range(4))
            try:
                ringed, many = share(finest(system), calls)
            except TooMany:
                continue
            self.assertEqual(ringed, 0)
            self.assertGreaterEqual(many, 1)


class TestErrors(CampaignTestCase):
    def test_cuttings(self):
        look = {"system": SYSTEM, "cuts": ()}
        for value in (*STRANGE, 0, SYSTEM, Cutting, Posing(Cutting, **look), types.SimpleNamespace(**look)):
            for calls in (CALLS, None, (), Broken(), CALLS * 20):
                self.raises(InvalidCutting, value, share, value, calls)
                for store in ({}, None, Broken()):
                    self.raises(InvalidCutting, value, stores, value, calls, store)

    def test_calls(self):
        others = [value for value in STRANGE if type(value) is not tuple]
        for calls in (*others, 0, "", list(CALLS), CALLS * 21, {CALLS[0]: 1}, (CALLS[0],) * 41, (None,) * 41):
            self.raises(InvalidCall, calls, share, CUTTING, calls)
            for store in ({}, None, Broken()):
                self.raises(InvalidCall, calls, stores, CUTTING, calls, store)
        for call in (*STRANGE, 0, (), list(CALLS[0]), ("pay", (1, 1), (), None), ("pay", (1, True), (), None)):
            for calls in ((call,), (CALLS[0], call, None), (*CALLS * 19, call)):
                with self.subTest(shown(call)):
                    self.raises(InvalidCall, call, share, CUTTING, calls)
                    self.raises(InvalidCall, call, stores, CUTTING, calls, None)

    def test_stores(self):
        others = [value for value in STRANGE if type(value) is not dict]
        others.extend([0, (), [(("m", 1), 5)], {"a": 1}, {("m", 1): True}, {("m", "a"): 1}, {("m", 1): 1.0}, {1: 1}])
        for store in others:
            for calls in (CALLS, (), CALLS * 20):
                self.raises(InvalidStore, store, stores, CUTTING, calls, store)

    def test_a_wrong_cutting_is_no_error(self):
        self.assertIs(is_right(CUTTING), False)
        self.assertEqual(share(Cutting.single(SYSTEM), CALLS), (2, 6))


if __name__ == "__main__":
    unittest.main()
