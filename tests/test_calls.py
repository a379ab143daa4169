"""Points 2, 10 and 11: calls, stores, the deeds of calls, and what whole calls do."""

import copy
import random
import unittest

from finestcuts.calls import apply, deeds_of, is_call, perform
from finestcuts.errors import InvalidCall, InvalidStore
from finestcuts.texts import parse_system
from making import Maker
from objects import LARGE, NAMES, NO_NAMES, STRANGE, Broken, Same, constant, shown

SYSTEM = parse_system(
    """kind pay a b
  unlike a b
  unlike b 7
  read money[a] x
  check enough
  choose
    add money[a] -x
    read log[0] y
  or
    put money[a] 1
    read money[a] y
  end
  check late
  choose
  or
    raise top[b] a + x + 2 * y
  end
  add money[b] x
end
kind look
  read money[1] x
end
kind move c d
  unlike c d
  backs
  alone
  lower money[c] d
  check x
  put money[d] 3 * c - 5
end"""
)
PAY = ("pay", (1, 2), (0, 1), None)
LOOK = ("look", (), (), None)
MOVE = ("move", (3, 4), (), None)
READ, TAKE, READ_LOG, PUT, READ_AGAIN, RAISE, GIVE = SYSTEM["pay"].deeds
STORE = {("money", 1): 10, ("money", 2): 5, ("log", 0): 3, ("top", 2): 1}
HUGE = 10**3999

NO_CALLS = (
    *STRANGE,
    0,
    "pay",
    (),
    ("pay",),
    PAY[:3],
    (*PAY, None),
    list(PAY),
    (PAY,),
    PAY[::-1],
    {"name": "pay"},
    SYSTEM,
    *[(name, *PAY[1:]) for name in (*STRANGE, *NAMES[3:], *NO_NAMES, 0, ("pay",), ["pay"], "look", "move")],
    *[("pay", values, *PAY[2:]) for values in (*STRANGE, 0, "12", [1, 2], (), (1,), (1, 2, 3), ((1, 2),), {1: 2})],
    *[("pay", (value, 2), *PAY[2:]) for value in (*STRANGE, "1", "a", (1,), [1])],
    *[("pay", (1, value), *PAY[2:]) for value in (*STRANGE, "1", "a", (1,), [1])],
    *[("pay", values, *PAY[2:]) for values in ((1, 1), (0, 0), (1, 7), (7, 7), (HUGE, HUGE))],
    *[("pay", (1, 2), choices, None) for choices in (*STRANGE, 0, "01", [0, 1], (), (0,), (0, 1, 0), ((0, 1),))],
    *[("pay", (1, 2), (choice, 0), None) for choice in (*STRANGE, 2, -1, "0", (0,), HUGE)],
    *[("pay", (1, 2), (0, choice), None) for choice in (*STRANGE, 2, -1, "0", (0,), HUGE)],
    *[("pay", (1, 2), (0, 1), stop) for stop in (*STRANGE[1:], 0, 2, 4, 5, 6, -1, -3, "1", "enough", (1,), HUGE)],
    ("look", (1,), (), None),
    ("look", (), (0,), None),
    ("look", (), (), 0),
    ("look", [], (), None),
    ("look", (), [], None),
    ("look", None, (), None),
    ("look", (), None, None),
    ("move", (3, 3), (), None),
    ("move", (True, 4), (), None),
    ("move", (3, 4), (), True),
    ("move", (3, 4), (), 0),
)

NO_STORES = (
    *[value for value in STRANGE if type(value) is not dict],
    {"a": 1},
    0,
    "",
    (),
    [("m", 1)],
    [(("m", 1), 5)],
    (("m", 1), 5),
    {("m", 1)},
    STORE.items(),
    *[{("m", 1): value} for value in (*STRANGE, "5", (5,), [5])],
    *[{**STORE, ("m", 1): value} for value in (True, False, None, 1.0)],
    *[{item: 5} for item in (None, True, 0, 1, "m", (), ("m",), ("m", 1, 1), (1, "m"), ("m", "1"), ("m", "a"), b"m")],
    *[{("m", index): 5} for index in (None, True, False, 1.0, "a", (1,), b"1", frozenset())],
    *[{(table, 1): 5} for table in (*NO_NAMES, None, True, 0, b"m", ("m",))],
    *[{**STORE, item: 5} for item in (None, ("M", 1), ("m", True), ("end", 1), ("abcdefghi", 1))],
    {Same(): 5},
    {("m", 1): 5, object(): 5},
)


def side_deeds(step, choices):
    """The deeds of a step; takes the next of the choices if it is a choose."""
    if step[0] == "check":
        return ()
    return step[1 + choices.pop(0)] if step[0] == "choose" else (step,)


def expected_deeds(system, call):
    """The deeds of a call, found step by step."""
    kind = {kind.name: kind for kind in system.kinds}[call[0]]
    choices, found = list(call[2]), []
    for at, step in enumerate(kind.steps):
        for deed in side_deeds(step, choices):
            table, index = deed[1]
            found.append((at, deed, (table, index if type(index) is int else call[1][kind.parameters.index(index)])))
    return found


def expected_values(system, call, store):
    """The store after a call and its locals, found deed by deed."""
    kind = {kind.name: kind for kind in system.kinds}[call[0]]
    values = {**dict.fromkeys(kind.local_names, 0), **dict(zip(kind.parameters, call[1], strict=True))}
    after = dict(store)
    for _, (word, _, last), item in expected_deeds(system, call) if call[3] is None else ():
        old = after.get(item, 0)
        if word == "read":
            values[last] = old
            continue
        amount = last[1]
        for factor, name in last[2]:
            amount += factor * values[name]
        after[item] = {"add": old + amount, "raise": max(old, amount), "lower": min(old, amount), "put": amount}[word]
    return {item: value for item, value in after.items() if value}, {name: values[name] for name in kind.local_names}


class CallTestCase(unittest.TestCase):
    def performed(self, call, store, after, local_values, system=SYSTEM):
        with self.subTest(call=shown(call)):
            kept = copy.deepcopy(store)
            told = perform(system, call, store)
            self.assertIs(type(told), tuple)
            self.assertEqual([type(part) for part in told], [dict, dict])
            self.assertEqual(told, (after, local_values))
            self.assertEqual({type(value) for part in told for value in part.values()} - {int}, set())
            self.assertEqual(store, kept)
            self.assertIsNot(told[0], store)

    def invalid(self, error, value, function, *arguments):
        with self.subTest(shown(value)):
            with self.assertRaises(error) as caught:
                function(*arguments)
            self.assertIs(type(caught.exception), error)
            self.assertIs(caught.exception.value, value)


class TestForms(CallTestCase):
    def taken(self, *call):
        with self.subTest(shown(call)):
            self.assertIs(is_call(SYSTEM, call), True)

    def test_calls(self):
        for call in (PAY, LOOK, MOVE):
            self.taken(*call)
        self.assertIs(is_call(system=SYSTEM, value=PAY), True)

    def test_values(self):
        for values in ((1, 2), (7, 2), (0, -1), (-7, 8), (HUGE, -HUGE), (LARGE, 0)):
            self.taken("pay", values, (0, 1), None)

    def test_choices(self):
        for first in (0, 1):
            for second in (0, 1):
                self.taken("pay", (1, 2), (first, second), None)

    def test_stops(self):
        for stop in (None, 1, 3):
            self.taken("pay", (1, 2), (1, 0), stop)
        self.taken("move", (3, 4), (), 1)

    def test_what_are_no_calls(self):
        for value in NO_CALLS:
            with self.subTest(shown(value)):
                self.assertIs(is_call(SYSTEM, value), False)

    def test_what_is_unlike(self):
        system = parse_system("kind pay a b\n  unlike a 1\n  check x\nend")
        for values, expected in (((1, 2), False), ((2, 1), True), ((2, 2), True), ((1, 1), False), ((-1, 1), True)):
            self.assertIs(is_call(system, ("pay", values, (), None)), expected)
        system = parse_system("kind pay a b c\n  unlike a c\n  unlike b -1\n  unlike b 0\n  check x\nend")
        for values in ((1, 1, 2), (0, 1, 1), (-1, 2, 0)):
            self.assertIs(is_call(system, ("pay", values, (), None)), True)
        for values in ((1, 2, 1), (0, 0, 1), (0, -1, 1), (0, 5, 0)):
            self.assertIs(is_call(system, ("pay", values, (), None)), False)

    def test_many_calls(self):
        found = 0
        for seed in range(100):
            maker = Maker(random.Random(seed))
            system = maker.system()
            for call in (maker.call(kind) for kind in system.kinds):
                if call is not None:
                    found += 1
                    self.assertIs(is_call(system, call), True)
                    for at in range(4):
                        self.assertIs(is_call(system, (*call[:at], Broken(), *call[at + 1 :])), False)
        self.assertGreater(found, 200)


class TestDeeds(CallTestCase):
    def check(self, call, expected):
        with self.subTest(call=call):
            found = deeds_of(SYSTEM, call)
            self.assertIs(type(found), list)
            self.assertEqual(found, expected)
            self.assertTrue(all(type(row) is tuple and type(row[0]) is int for row in found))
            self.assertIsNot(deeds_of(SYSTEM, call), found)

    def test_the_example(self):
        text = "kind pay a b\n  unlike a b\n  read money[a] x\n  add money[a] -x\n  add money[b] 2 * x\nend"
        system, call = parse_system(text), ("pay", (1, 2), (), None)
        self.assertEqual(deeds_of(system, call)[2][2], ("money", 2))
        self.performed(call, {("money", 1): 7}, {("money", 2): 14}, {"x": 7}, system)

    def test_choices(self):
        one, two, log, top = ("money", 1), ("money", 2), ("log", 0), ("top", 2)
        first = [(2, TAKE, one), (2, READ_LOG, log)]
        second = [(2, PUT, one), (2, READ_AGAIN, one)]
        for choice, deeds in enumerate((first, second)):
            for other, more in enumerate(([], [(4, RAISE, top)])):
                call = ("pay", (1, 2), (choice, other), None)
                self.check(call, [(0, READ, one), *deeds, *more, (5, GIVE, two)])

    def test_as_if_it_did_not_stop(self):
        for choices in ((0, 0), (0, 1), (1, 0), (1, 1)):
            whole = deeds_of(SYSTEM, ("pay", (1, 2), choices, None))
            for stop in (1, 3):
                self.check(("pay", (1, 2), choices, stop), whole)

    def test_indices(self):
        self.check(LOOK, [(0, ("read", ("money", 1), "x"), ("money", 1))])
        lower, put = SYSTEM["move"].deeds
        for values in ((3, 4), (4, 3), (-HUGE, HUGE), (0, -1)):
            call = ("move", values, (), None)
            self.check(call, [(0, lower, ("money", values[0])), (2, put, ("money", values[1]))])

    def test_a_choose_without_deeds(self):
        system = parse_system("kind pay\n  choose\n  or\n  end\nend")
        for choice in (0, 1):
            self.assertEqual(deeds_of(system, ("pay", (), (choice,), None)), [])
            self.assertEqual(perform(system, ("pay", (), (choice,), None), {}), ({}, {}))

    def test_results_are_new(self):
        found = deeds_of(SYSTEM, PAY)
        found.clear()
        self.assertEqual(len(deeds_of(SYSTEM, PAY)), 5)

    def test_what_are_no_calls(self):
        for value in NO_CALLS:
            self.invalid(InvalidCall, value, deeds_of, SYSTEM, value)

    def test_arguments_by_name(self):
        self.assertEqual(deeds_of(call=PAY, system=SYSTEM), deeds_of(SYSTEM, PAY))


class TestWholeCalls(CallTestCase):
    def test_a_call(self):
        after = {("money", 2): 15, ("log", 0): 3, ("top", 2): 17}
        self.performed(PAY, STORE, after, {"x": 10, "y": 3})

    def test_a_local_read_in_one_tuple_and_named_behind_it(self):
        after = {("money", 1): 1, ("money", 2): 15, ("log", 0): 3, ("top", 2): 13}
        self.performed(("pay", (1, 2), (1, 1), None), STORE, after, {"x": 10, "y": 1})
        text = "kind pay\n  choose\n    read m[0] x\n  or\n  end\n  put m[1] 2 * x + 1\nend"
        for choice, value in ((0, 9), (1, 1)):
            call, store = ("pay", (), (choice,), None), {("m", 0): 4}
            self.performed(call, store, {("m", 0): 4, ("m", 1): value}, {"x": 4 - 4 * choice}, parse_system(text))

    def test_locals_that_are_not_read(self):
        self.performed(("pay", (5, 6), (0, 0), None), {}, {}, {"x": 0, "y": 0})
        text = "kind pay\n  choose\n    read m[0] x\n  or\n    read m[0] y\n  end\nend"
        for choice, local_values in ((0, {"x": 4, "y": 0}), (1, {"x": 0, "y": 4})):
            self.performed(("pay", (), (choice,), None), {("m", 0): 4}, {("m", 0): 4}, local_values, parse_system(text))

    def test_calls_that_stop(self):
        for choices in ((0, 0), (0, 1), (1, 0), (1, 1)):
            for stop in (1, 3):
                self.performed(("pay", (1, 2), choices, stop), STORE, STORE, {"x": 0, "y": 0})
        self.performed(("move", (1, 2), (), 1), STORE, STORE, {})
        self.performed(("pay", (1, 2), (0, 0), 1), {("m", 1): 0, ("m", 2): 3}, {("m", 2): 3}, {"x": 0, "y": 0})

    def test_a_kind_without_locals(self):
        self.performed(("move", (1, 2), (), None), {("money", 1): 7}, {("money", 1): 2, ("money", 2): -2}, {})

    def test_two_deeds_on_the_same_item(self):
        text = """kind pay a b
  add m[a] 5
  add m[b] 3
  read m[a] x
  put m[1] 2 * x
  read m[b] y
  raise m[a] x + y
  read m[a] x
  lower m[b] 30
end"""
        system = parse_system(text)
        self.performed(("pay", (1, 1), (), None), {("m", 1): 2}, {("m", 1): 30}, {"x": 30, "y": 20}, system)
        expected = {("m", 0): 3, ("m", 1): 14}
        self.performed(("pay", (1, 0), (), None), {("m", 1): 2}, expected, {"x": 14, "y": 3}, system)

    def test_a_local_that_is_read_twice(self):
        text = "kind pay\n  read m[0] x\n  put m[1] x\n  read m[2] x\n  add m[1] 10 * x\nend"
        store = {("m", 0): 3, ("m", 2): 4}
        self.performed(("pay", (), (), None), store, {**store, ("m", 1): 43}, {"x": 4}, parse_system(text))

    def test_items_that_come_to_0(self):
        text = "kind pay a\n  add m[0] -5\n  put m[1] 0\n  raise m[2] 0\n  lower m[3] 0\n  put m[4] 1\n  add m[4] -1\nend"
        store = {("m", 0): 5, ("m", 1): 8, ("m", 2): -2, ("m", 3): 2, ("m", 5): 6}
        self.performed(("pay", (0,), (), None), store, {("m", 5): 6}, {}, parse_system(text))
        self.performed(("pay", (0,), (), None), {}, {("m", 0): -5}, {}, parse_system(text))

    def test_stores_with_values_of_0(self):
        store = {("money", 1): 0, ("money", 7): 0, ("other", -1): 0, ("other", 0): -4}
        self.performed(LOOK, store, {("other", 0): -4}, {"x": 0})
        self.performed(PAY, store, {("other", 0): -4, ("top", 2): 1}, {"x": 0, "y": 0})
        self.assertEqual(len(store), 4)

    def test_large_numbers(self):
        store = {("money", HUGE): HUGE, ("money", 1): -HUGE}
        self.performed(LOOK, store, store, {"x": -HUGE})
        after = {("money", 1): -HUGE, ("money", 2): HUGE, ("top", 2): 2 * HUGE}
        self.performed(("pay", (HUGE, 2), (0, 1), None), store, after, {"x": HUGE, "y": 0})

    def test_results_are_new(self):
        for call in (PAY, LOOK, ("pay", (1, 2), (0, 1), 1)):
            store = dict(STORE)
            after, local_values = perform(SYSTEM, call, store)
            after.clear()
            local_values.clear()
            self.assertEqual(store, STORE)
            again = perform(SYSTEM, call, store)
            self.assertEqual(again, expected_values(SYSTEM, call, STORE))
            store[("money", 9)] = 9
            self.assertEqual(again, expected_values(SYSTEM, call, STORE))

    def test_what_are_no_calls(self):
        for value in NO_CALLS:
            self.invalid(InvalidCall, value, perform, SYSTEM, value, STORE)
            self.invalid(InvalidCall, value, perform, SYSTEM, value, None)

    def test_what_are_no_stores(self):
        for store in NO_STORES:
            for call in (PAY, LOOK, ("pay", (1, 2), (0, 1), 3)):
                self.invalid(InvalidStore, store, perform, SYSTEM, call, store)

    def test_wrong_stores_stay(self):
        store = {("money", 1): 5, ("money", 2): True}
        self.assertRaises(InvalidStore, perform, SYSTEM, PAY, store)
        self.assertEqual(repr(store), "{('money', 1): 5, ('money', 2): True}")

    def test_arguments_by_name(self):
        self.assertEqual(perform(store=STORE, call=PAY, system=SYSTEM), perform(SYSTEM, PAY, STORE))

    def test_many_calls(self):
        found = 0
        for seed in range(300):
            maker = Maker(random.Random(seed))
            system = maker.system()
            items = [(table, index) for table in "mst" for index in (-1, 0, 1, 2, 3, 7)]
            store = {item: maker.source.choice((0, 1, -5, 8)) for item in items if maker.source.random() < 0.5}
            for call in (maker.call(kind) for kind in system.kinds * 3):
                if call is not None:
                    found += call[3] is None
                    self.assertEqual(deeds_of(system, call), expected_deeds(system, call))
                    self.performed(call, store, *expected_values(system, call, store), system)
        self.assertGreater(found, 500)


class TestApply(CallTestCase):
    def check(self, word, value, amount, expected):
        deed = (word, ("m", "a"), "x" if word == "read" else constant(5))
        with self.subTest(word, value=shown(value), amount=shown(amount)):
            told = apply(deed, ("m", 1), value, amount)
            self.assertEqual(told, expected)
            self.assertIs(type(told), int)

    def test_each_word(self):
        for value in (0, 1, -1, 7, -7, LARGE, HUGE):
            for amount in (0, 1, -1, 7, -7, -LARGE, -HUGE):
                self.check("add", value, amount, value + amount)
                self.check("raise", value, amount, value if value > amount else amount)
                self.check("lower", value, amount, amount if value > amount else value)
                self.check("put", value, amount, amount)
                self.check("read", value, amount, value)

    def test_the_amount_counts_and_not_the_sum(self):
        self.assertEqual(apply(("add", ("m", 0), ("sum", 5, ((2, "a"),))), ("m", 0), 10, 1), 11)

    def test_any_amount_for_a_read(self):
        for amount in (*STRANGE, "5", ()):
            self.check("read", 7, amount, 7)

    def test_arguments_by_name(self):
        told = apply(amount=2, value=3, item=("m", 0), deed=("lower", ("m", 0), constant(2)))
        self.assertEqual(told, 2)


if __name__ == "__main__":
    unittest.main()
