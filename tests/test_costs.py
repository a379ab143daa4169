"""Points 2 and 31 to 33: what chains of steps cost, and which tuples are chains."""

import random
import types
import unittest

from finestcuts.costs import Costs
from finestcuts.errors import InvalidCosts, InvalidOrder
from finestcuts.kinds import Kind
from finestcuts.texts import parse_system
from making import Maker
from objects import NAMES, NO_NAMES, STRANGE, Broken, Posing, RaisingTestCase, Same, shown
from orderings import all_chains, deeds_in, is_chain, must_keep

PAY = parse_system(
    """kind pay a b
  unlike a b
  add money[a] -5
  put seen[a] 1
  add money[b] 5
  choose
    add money[a] 1
    put log[0] 1
  or
    put log[1] 2
    put log[0] 1
  end
end"""
)["pay"]
# Each step but the last two has only adds, so that these can stand in any order.
FREE = parse_system(
    """kind free
  add m[0] 1
  add m[1] 1
  add s[0] 1
  check x
  choose
  or
  end
end"""
)["free"]


def kind_of(*steps, head="pay a b", unlike=""):
    lines = [f"kind {head}", *unlike.splitlines(), *[f"  {step}" for step in steps], "end"]
    return parse_system("\n".join(lines))["pay"]


class CostTestCase(RaisingTestCase):
    def cost(self, expected, kind, chain, **more):
        with self.subTest(chain=chain, **more):
            found = Costs(**more)(kind, chain)
            self.assertEqual(found, expected)
            self.assertIs(type(found), int)


class TestByHand(CostTestCase):
    def test_the_example_of_the_next_stage(self):
        text = "kind pay a b\n  unlike a b\n  add money[a] -5\n  put seen[a] 1\n  add money[b] 5\nend"
        self.cost(5, parse_system(text)["pay"], ((0, 2), (1,)))
        both = parse_system("kind both c d\n  read money[c] x\n  read money[d] y\nend")["both"]
        self.cost(7, both, ((0, 1),), price=3)
        self.cost(8, both, ((0,), (1,)), price=3)

    def test_without_durations(self):
        # Places: money[a], seen[a], money[b], and money[a], log[0], log[1] of the choose.
        self.cost(4 * 5, PAY, ((0, 1, 2, 3),))
        self.cost(1 + 1 + 1 + 3, PAY, ((0,), (1,), (2,), (3,)))
        self.cost(2 * 2 + 2 * 4, PAY, ((0, 1), (2, 3)))
        self.cost(2 * 2 + 2 * 4, PAY, ((0, 2), (1, 3)))
        self.cost(2 * 2 + 1 + 3, PAY, ((0, 2), (3,), (1,)))

    def test_durations_of_some_kinds(self):
        durations = {"look": (7,), "pay": (1, 2, 3, 0)}
        self.cost(6 * 5, PAY, ((0, 1, 2, 3),), durations=durations)
        self.cost(1 + 2 + 3 + 0, PAY, ((0,), (1,), (2,), (3,)), durations=durations)
        self.cost(3 * 2 + 3 * 4, PAY, ((0, 1), (2, 3)), durations=durations)
        self.cost(4 * 5, PAY, ((0, 1, 2, 3),), durations={"look": (7,), "paying": (0,) * 4})
        self.cost(4 * 5, PAY, ((0, 1, 2, 3),), durations={})
        self.cost(0, PAY, ((0, 1, 2, 3),), durations={"pay": (0, 0, 0, 0)})
        self.cost(4000 * 5, PAY, ((0, 1, 2, 3),), durations={"pay": (1000,) * 4})

    def test_weights_of_some_tables(self):
        weights = {"money": 10, "log": 100, "other": 1000}
        self.cost(4 * (20 + 200 + 1), PAY, ((0, 1, 2, 3),), weights=weights)
        self.cost(10 + 1 + 10 + 210, PAY, ((0,), (1,), (2,), (3,)), weights=weights)
        self.cost(2 * 11 + 2 * 220, PAY, ((0, 1), (2, 3)), weights=weights)
        self.cost(1 * 1 + 3 * 20, PAY, ((1,), (0, 2, 3)), weights={"log": 0, "money": 10, "seen": 1})
        self.cost(0, PAY, ((0, 1, 2, 3),), weights={"log": 0, "money": 0, "seen": 0})
        self.cost(4 * 5000, PAY, ((0, 1, 2, 3),), weights={"log": 1000, "money": 1000, "seen": 1000})
        self.cost(4 * 5, PAY, ((0, 1, 2, 3),), weights={})

    def test_price(self):
        for price in (0, 1, 999, 1000):
            self.cost(4 * 5 + price, PAY, ((0, 1, 2, 3),), price=price)
            self.cost(6 + 4 * price, PAY, ((0,), (1,), (2,), (3,)), price=price)

    def test_all_of_them(self):
        more = {"durations": {"pay": (3, 1, 4, 1)}, "weights": {"money": 5, "log": 9}, "price": 2}
        self.cost(9 * (10 + 18 + 1) + 2, PAY, ((0, 1, 2, 3),), **more)
        self.cost((7 * 10 + 2) + (2 * 24 + 2), PAY, ((0, 2), (1, 3)), **more)
        self.assertEqual(Costs(more["durations"], more["weights"], 2)(PAY, ((0, 2), (1, 3))), 122)
        self.assertEqual(Costs(None, more["weights"])(chain=((0, 2), (1, 3)), kind=PAY), 20 + 48)

    def test_the_same_places(self):
        kind = kind_of("add m[a] 1", "add m[a] 2", "add m[b] 1", "add m[0] 1", "add m[1] 1", "add s[a] 1")
        self.cost(6 * 5, kind, ((0, 1, 2, 3, 4, 5),))
        self.cost(2 * 1 + 4 * 4, kind, ((0, 1), (2, 3, 4, 5)))
        self.cost(1 + 5 * 5, kind, ((0,), (1, 2, 3, 4, 5)))
        self.cost(2 * 1 * 7 + 4 * (7 * 3 + 1), kind, ((0, 1), (2, 3, 4, 5)), weights={"m": 7})

    def test_steps_without_places(self):
        self.cost(5 * 3, FREE, ((0, 1, 2, 3, 4),))
        self.cost(3 * 3 + 0, FREE, ((0, 1, 2), (3, 4)))
        self.cost(3 * 3 + 10, FREE, ((0, 1, 2), (3, 4)), price=5)
        self.cost(0 + 0 + 1 + 1 + 1, FREE, ((3,), (4,), (2,), (1,), (0,)))
        self.cost(11 * 2 + 20 * 1, FREE, ((0, 1, 3), (2, 4)), durations={"free": (1, 3, 13, 7, 7)})


class TestChains(CostTestCase):
    def chains(self, kind, *wrong):
        for chain in wrong:
            self.raises(InvalidOrder, chain, Costs(), kind, chain)

    def test_what_is_no_chain(self):
        whole = ((0, 1, 2, 3),)
        self.chains(
            PAY,
            *STRANGE,
            0,
            "",
            "0123",
            (),
            ((),),
            ((0, 1, 2),),
            ((0, 1, 3),),
            ((1, 2, 3),),
            ((0, 1, 2, 3, 4),),
            ((0, 1, 2, 3, 3),),
            ((0, 0, 1, 2, 3),),
            ((0, 1, 2, 3), (3,)),
            ((0, 1), (1, 2, 3)),
            ((0, 1, 3, 2),),
            ((1, 0, 2, 3),),
            ((1, 0), (2, 3)),
            ((), (0, 1, 2, 3)),
            ((0, 1), (), (2, 3)),
            ((0, 1), (2, 3), ()),
            ((0, 1), (2,), (4,)),
            ((0, 1), (2, 3, -1)),
            ((-1, 0, 1, 2),),
            [(0, 1, 2, 3)],
            ([0, 1, 2, 3],),
            ((0, 1), [2, 3]),
            (0, 1, 2, 3),
            ((0, True, 2, 3),),
            ((False, 1, 2, 3),),
            ((0, 1.0, 2, 3),),
            ((0, 1, 2, "3"),),
            ((0, 1, 2, (3,)),),
            (whole,),
            {whole[0]: 1},
            iter(whole),
            (range(4),),
            PAY,
            *[((0, 1), strange) for strange in STRANGE],
            *[((0, 1), (2, strange)) for strange in STRANGE],
        )
        self.cost(20, PAY, whole)

    def test_deeds_that_clash(self):
        for one, other, unlike, keeps in (
            ("add m[a] 1", "put m[a] 1", "", True),
            ("add m[a] 1", "put m[b] 1", "", True),
            ("add m[a] 1", "put m[b] 1", "  unlike a b", False),
            ("add m[b] 1", "put m[a] 1", "  unlike a b", False),
            ("add m[a] 1", "put m[0] 1", "", True),
            ("add m[0] 1", "put m[a] 1", "  unlike a 1", True),
            ("add m[0] 1", "put m[a] 1", "  unlike a 0", False),
            ("add m[0] 1", "put m[0] 1", "", True),
            ("add m[0] 1", "put m[1] 1", "", False),
            ("add m[a] 1", "put s[a] 1", "", False),
            ("add m[a] 1", "add m[a] 2", "", False),
            ("raise m[a] 1", "raise m[a] 2", "", False),
            ("lower m[a] 1", "raise m[a] 2", "", True),
            ("put m[a] 1", "put m[a] 1", "", False),
            ("put m[a] 1", "put m[a] 2", "", True),
            ("put m[a] b", "put m[a] b", "", True),
            ("read m[a] x", "read m[a] y", "", False),
            ("read m[a] x", "add m[a] 1", "", True),
            ("choose\n    add m[a] 1\n  or\n  end", "choose\n  or\n    put m[b] 1\n  end", "", True),
            ("choose\n    add m[a] 1\n  or\n  end", "choose\n  or\n    add m[b] 1\n  end", "", False),
        ):
            self.keeps(kind_of(one, other, unlike=unlike), keeps)
            self.keeps(kind_of(other, one, unlike=unlike), keeps)

    def keeps(self, kind, expected):
        with self.subTest(kind.steps):
            self.assertIs(must_keep(kind, *kind.steps), expected)
            Costs()(kind, ((0, 1),))
            Costs()(kind, ((0,), (1,)))
            if expected:
                self.chains(kind, ((1,), (0,)))
            else:
                self.assertEqual(Costs()(kind, ((1,), (0,))), Costs()(kind, ((0,), (1,))))

    def test_locals_and_checks(self):
        put, choose = "put s[a] 2 * x", "choose\n    put s[a] x\n  or\n  end"
        read = "read m[a] x"
        for one, other, keeps in (
            (read, put, True),
            (read, choose, True),
            (read, "put s[a] b", False),
            (read, "read t[a] x", True),
            (read, "read t[a] y", False),
            (read, "choose\n  or\n    read t[a] x\n  end", True),
            (read, "check x", True),
            ("check x", read, True),
            ("check x", "check x", True),
            ("check x", "check y", True),
            ("check x", "choose\n  or\n    read t[a] x\n  end", True),
            ("check x", "choose\n  or\n    put t[a] 1\n  end", False),
            ("check x", "add m[a] 1", False),
            ("add m[a] 1", "check x", False),
        ):
            self.keeps(kind_of(one, other), keeps)
        # A sum names the local that a later step reads again.
        kind = kind_of(read, put, "read t[a] x")
        self.chains(kind, ((0,), (2,), (1,)), ((1,), (0, 2)), ((0, 2), (1,)), ((2,), (0, 1)))
        self.cost(3 * 3, kind, ((0, 1, 2),))
        self.cost(2 * 2 + 1, kind, ((0, 1), (2,)))

    def test_small_kinds(self):
        found = {True: 0, False: 0}
        for seed in range(60):
            kind = Maker(random.Random(seed)).kind("pay")
            steps = kind.steps[:4]
            kind = Kind("pay", kind.parameters, steps, kind.unlike)
            for chain in all_chains(len(steps)):
                expected = is_chain(kind, chain)
                found[expected] += 1
                if expected:
                    places = [{deed[1] for step in piece for deed in deeds_in(steps[step])} for piece in chain]
                    cost = sum(len(piece) * len(items) for piece, items in zip(chain, places, strict=True))
                    self.cost(cost, kind, chain)
                else:
                    self.chains(kind, chain)
        self.assertGreater(min(found.values()), 500)

    def test_eight_steps(self):
        kind = Kind("pay", (), tuple(("add", ("m", at), ("sum", 1, ())) for at in range(8)))
        self.cost(64, kind, (tuple(range(8)),))
        self.cost(8, kind, tuple((at,) for at in range(7, -1, -1)))
        self.cost(32, kind, ((1, 3, 5, 7), (0, 2, 4, 6)))


class TestProperties(CostTestCase):
    def test_as_they_were_given(self):
        costs = Costs()
        self.assertEqual([costs.durations, costs.weights, costs.price], [None, None, 0])
        durations, weights = {"pay": (1, 2), "look": ()}, {"m": 0, "s": 1000}
        costs = Costs(price=7, weights=weights, durations=durations)
        self.assertEqual([costs.durations, costs.weights, costs.price], [durations, weights, 7])
        self.assertEqual(list(costs.durations), ["pay", "look"])
        costs = Costs({}, {})
        self.assertEqual([costs.durations, costs.weights], [{}, {}])

    def test_new_each_time(self):
        durations, weights = {"pay": (1, 2, 3, 4)}, {"money": 3}
        costs = Costs(durations, weights)
        for _ in range(2):
            for found, given in ((costs.durations, durations), (costs.weights, weights)):
                self.assertIs(type(found), dict)
                self.assertEqual(found, given)
                self.assertIsNot(found, given)
                found.clear()
        self.assertIsNot(costs.durations, costs.durations)
        self.assertIsNot(costs.weights, costs.weights)

    def test_what_was_handed_in_may_change(self):
        durations, weights = {"pay": (1, 2, 3, 4)}, {"money": 3}
        costs = Costs(durations, weights)
        before = costs(PAY, ((0, 1, 2, 3),))
        durations["pay"] = None
        durations["look"] = 5
        weights.clear()
        self.assertEqual([costs.durations, costs.weights], [{"pay": (1, 2, 3, 4)}, {"money": 3}])
        self.assertEqual(costs(PAY, ((0, 1, 2, 3),)), before)

    def test_equality(self):
        one, other = Costs({"pay": (1,), "look": ()}, {"m": 2}, 3), Costs({"look": (), "pay": (1,)}, {"m": 2}, 3)
        self.assertIs(one == other, True)
        self.assertIs(one != other, False)
        self.assertIs(Costs() == Costs(None, None, 0), True)
        given = one.durations
        for more in (Costs(), Costs({"pay": (1,)}, {"m": 2}, 3), Costs(given, {}, 3), Costs(given, {"m": 2})):
            self.assertIs(one == more, False)
            self.assertIs(one != more, True)
        self.assertIs(Costs({}) == Costs(), False)
        look = {"durations": None, "weights": None, "price": 0}
        for value in (*STRANGE, 0, PAY, Costs, types.SimpleNamespace(**look), Posing(Costs, **look), Same(), Broken()):
            with self.subTest(shown(value)):
                self.assertIs(Costs() == value, False)
                self.assertIs(Costs() != value, True)


class TestErrors(CostTestCase):
    NUMBERS = (*STRANGE, -1, 1001, 10**100, "5", (5,), [5])

    def test_the_ends(self):
        for number in (0, 1, 1000):
            costs = Costs({"pay": (number,) * 4}, {"money": number}, number)
            self.assertEqual(costs.price, number)
            for name in NAMES:
                self.assertEqual(Costs({name: (number,)}, {name: number}).durations, {name: (number,)})

    def test_durations(self):
        others = [value for value in STRANGE if value is not None and type(value) is not dict]
        wrong = [*others, 0, "pay", (), ("pay", (1,)), [("pay", (1,))], {("pay", (1,))}, {"a": 1}]
        wrong.extend([{"pay": (number,)} for number in self.NUMBERS])
        wrong.extend([{"look": (1,), "pay": (1, number, 2)} for number in self.NUMBERS])
        wrong.extend([{"pay": row} for row in (*STRANGE, 5, "1", [1], [1, 2, 3, 4], {1: 1}, range(4), ((1,),))])
        wrong.extend([{name: (1,)} for name in (None, True, 0, 1, *NO_NAMES, b"pay", ("pay",), Same())])
        for value in wrong:
            for weights, price in ((None, 0), ({}, 5), ([], -1), (Broken(), Broken())):
                self.raises(InvalidCosts, value, Costs, value, weights, price)

    def test_weights(self):
        others = [value for value in STRANGE if value is not None and type(value) is not dict]
        wrong = [*others, 0, "m", (), ("m", 1), [("m", 1)], {("m", 1)}, {"m": (1,)}]
        wrong.extend([{"m": number} for number in self.NUMBERS])
        wrong.extend([{"s": 1, "m": number} for number in self.NUMBERS])
        wrong.extend([{name: 1} for name in (None, True, 0, 1, *NO_NAMES, b"m", ("m",), ("m", 0), Same())])
        for value in wrong:
            for durations, price in ((None, 0), ({"pay": (1,)}, -1), ({}, Broken())):
                self.raises(InvalidCosts, value, Costs, durations, value, price)

    def test_prices(self):
        for price in self.NUMBERS:
            self.raises(InvalidCosts, price, Costs, None, None, price)
            self.raises(InvalidCosts, price, Costs, {"pay": (1,)}, {"m": 5}, price)

    def test_durations_of_another_number_of_steps(self):
        for row in ((), (1,), (1, 2, 3), (1, 2, 3, 4, 5)):
            costs = Costs({"pay": row, "free": (1,) * 5})
            for chain in (((0, 1, 2, 3),), (), None, Broken(), ((3,), (0,)), [(0, 1, 2, 3)]):
                self.raises(InvalidCosts, row, costs, PAY, chain)
            self.assertEqual(costs(FREE, ((0, 1, 2, 3, 4),)), 15)
            self.raises(InvalidOrder, (), costs, FREE, ())

    def test_an_error_changes_nothing(self):
        durations = {"pay": (1, 2, 3, 4), "look": [1]}
        self.assertRaises(InvalidCosts, Costs, durations)
        self.assertEqual(durations, {"pay": (1, 2, 3, 4), "look": [1]})
        costs = Costs({"pay": (1, 2)})
        self.assertRaises(InvalidCosts, costs, PAY, ((0, 1, 2, 3),))
        self.assertEqual([costs.durations, costs.weights, costs.price], [{"pay": (1, 2)}, None, 0])


if __name__ == "__main__":
    unittest.main()
