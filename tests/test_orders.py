"""Points 2 and 16 to 20: arrows, orders, rings and exchanges of runs."""

import itertools
import random
import types
import unittest

import naive
from finestcuts.cuttings import Cutting
from finestcuts.errors import InvalidNumber, InvalidRun, NotInOrder
from finestcuts.orders import arrows, exchanged, exchanges, is_order, is_ring, order, ring
from finestcuts.runs import Run
from finestcuts.texts import parse_system
from making import Maker
from objects import STRANGE, Broken, Posing, RaisingTestCase, shown

EXAMPLE = parse_system("kind pay a b\n  add m[a] -1\n  add m[b] 1\nend\nkind look c\n  read m[c] x\nend")
# Each call leads from the item ahead to the item behind, so that any rings can be made.
LINKS = Cutting.single(parse_system("kind pay a b\n  read m[a] x\n  put m[b] x\nend"))
STOPPING = parse_system(
    """kind pay a
  backs
  add m[a] 1
  read m[a] x
  check x
  put m[a] 1
end
kind look a
  read m[a] x
end
kind move a
  add m[a] 2
end
kind lose
  check x
  choose
  or
    put m[0] 7
  end
end"""
)


def pay(one, other):
    return ("pay", (one, other), (), None)


def look(one):
    return ("look", (one,), (), None)


def is_order_of(links, many, value):
    """Whether a tuple of all calls is an order, by its arrows."""
    return sorted(value) == list(range(many)) and all(value.index(one) < value.index(other) for one, other in links)


def random_run(seed, most=5, over=True):
    """A run of any calls of a system of any shape."""
    maker = Maker(random.Random(seed))
    system, source = maker.system(), maker.source
    cutting = Cutting(system, [cut for cut in Cutting.single(system) if source.random() < 0.5])
    calls = [maker.call(source.choice(system.kinds)) for _ in range(source.randint(0, most))]
    calls = tuple(call for call in calls if call is not None)
    row = [at for at, call in enumerate(calls) for _ in naive.pieces_of(cutting, call)]
    source.shuffle(row)
    return Run(cutting, calls, tuple(row if over else row[: source.randint(0, len(row))]))


def linked_run(source, many):
    """A run of calls of few items, of which some have arrows and some have none."""
    calls = tuple(pay(source.randint(0, 6), source.randint(0, 6)) for _ in range(many))
    row = list(range(many)) * 2
    if source.random() < 0.7:
        row.sort()
        for _ in range(source.randint(0, 12)):
            at = source.randrange(len(row) - 1)
            row[at : at + 2] = row[at + 1], row[at]
    else:
        source.shuffle(row)
    return Run(LINKS, calls, tuple(row))


class OrderTestCase(RaisingTestCase):
    def same_effect(self, one, other):
        """Two runs leave the same store and locals."""
        for store in ({}, {(table, index): 3 * index - 4 for table in "mst" for index in range(-1, 8)}):
            self.assertEqual(one(store), other(store))

    def puts_in_order(self, run):
        """Goes through the exchanges of a run one by one."""
        placed = order(run)
        found = exchanges(run)
        self.assertIs(type(found), list)
        self.assertIsNot(exchanges(run), found)
        now = run
        for position in found:
            self.assertIs(type(position), int)
            pieces = [now.performed(position), now.performed(position + 1)]
            self.assertNotEqual(now.row[position], now.row[position + 1])
            self.assertFalse(any(naive.do_meet(one, other) for one, other in itertools.product(*pieces)))
            before, now = now, exchanged(now, position)
            self.assertEqual(now.row[position : position + 2], before.row[position : position + 2][::-1])
            self.assertEqual(now.row[:position], before.row[:position])
            self.assertEqual(now.row[position + 2 :], before.row[position + 2 :])
        self.assertEqual(now.row, tuple(number for number in placed for _ in range(run.row.count(number))))
        self.assertEqual((now.cutting, now.calls), (run.cutting, run.calls))
        self.same_effect(run, now)


class TestExample(OrderTestCase):
    def test_the_example(self):
        run = Run(Cutting.single(EXAMPLE), (look(2), pay(1, 2), look(1)), (1, 2, 0, 1))
        self.assertEqual([arrows(run), order(run), ring(run)], [[(0, 1), (1, 2)], (0, 1, 2), None])
        self.puts_in_order(run)
        self.assertEqual(len(exchanges(run)), 3)

    def test_by_name(self):
        run = Run(Cutting.single(EXAMPLE), (look(2), pay(1, 2), look(1)), (1, 2, 0, 1))
        self.assertEqual([arrows(run=run), order(run=run), ring(run=run)], [arrows(run), order(run), ring(run)])
        self.assertEqual(exchanges(run=run), exchanges(run))
        self.assertEqual(exchanged(position=1, run=run).row, (1, 0, 2, 1))
        self.assertEqual([is_order(value=(0, 1, 2), run=run), is_ring(value=(0, 1), run=run)], [True, False])


class TestArrows(OrderTestCase):
    def arrows(self, run, *expected):
        found = arrows(run)
        self.assertEqual(found, list(expected))
        self.assertIs(type(found), list)
        self.assertEqual(found, sorted(naive.arrows_of(run.cutting, run.calls, run.row)))
        found.append(None)
        self.assertNotIn(None, arrows(run))

    def test_both_ways(self):
        calls = (pay(1, 2), pay(2, 1))
        self.arrows(Run(LINKS, calls, (0, 1, 0, 1)), (0, 1), (1, 0))
        self.arrows(Run(LINKS, calls, (0, 0, 1, 1)), (0, 1))
        self.arrows(Run(LINKS, calls, (1, 1, 0, 0)), (1, 0))
        self.arrows(Run(LINKS, calls, (1, 1)))
        self.arrows(Run(LINKS, calls, (0, 1)))
        self.arrows(Run(LINKS, calls))

    def test_several_pieces_with_one_other(self):
        single = Cutting.single(EXAMPLE)
        self.arrows(Run(single, (pay(1, 1), look(1)), (0, 1, 0)), (0, 1), (1, 0))
        self.arrows(Run(single, (pay(1, 1), look(1)), (0, 0, 1)), (0, 1))
        self.arrows(Run(single, (pay(1, 1), pay(1, 1)), (0, 1, 1, 0)))
        self.arrows(Run(single, (pay(1, 2), look(1), look(2), look(3)), (3, 0, 1, 2, 0)), (0, 1), (2, 0))

    def test_pieces_of_one_call(self):
        system = parse_system("kind pay\n  put m[0] 1\n  put m[0] 2\n  read m[0] x\nend")
        run = Run(Cutting.single(system), (("pay", (), (), None),), (0, 0, 0))
        self.arrows(run)
        self.assertEqual([order(run), ring(run), exchanges(run)], [(0,), None, []])
        for position in range(3):
            self.raises(InvalidNumber, position, exchanged, run, position)

    def test_pieces_that_do_nothing(self):
        cutting = Cutting.single(STOPPING)
        calls = (("lose", (), (0,), None), ("lose", (), (0,), 0), look(0), ("lose", (), (1,), None))
        self.arrows(Run(cutting, calls, (0, 1, 2, 0)))
        self.arrows(Run(cutting, calls, (0, 1, 3, 2, 3)), (2, 3))
        self.arrows(Run(cutting, calls, (3, 3, 2, 0, 1)), (3, 2))

    def test_back_pieces(self):
        cutting = Cutting.single(STOPPING)
        calls = (("pay", (1,), (), 2), look(1), ("move", (1,), (), None))
        self.arrows(Run(cutting, calls, (0, 0, 0, 0, 1, 0)), (0, 1), (1, 0))
        self.arrows(Run(cutting, calls, (0, 0, 0, 0, 0, 1)), (0, 1))
        self.arrows(Run(cutting, calls, (1, 0, 0, 0, 0, 0)), (1, 0))
        # The read meets what is added, and what takes the own add back does not.
        self.arrows(Run(cutting, calls, (0, 2, 0, 0, 0, 0)), (2, 0))
        self.arrows(Run(cutting, calls, (0, 0, 0, 0, 2, 0)), (0, 2))
        self.arrows(Run(Cutting.whole(STOPPING), calls, (0, 1, 2)), (1, 2))

    def test_many_runs(self):
        found = 0
        for seed in range(150):
            for over in (True, False):
                run = random_run(seed, over=over)
                expected = sorted(naive.arrows_of(run.cutting, run.calls, run.row))
                self.arrows(run, *expected)
                found += len(expected)
        self.assertGreater(found, 250)


class TestOrders(OrderTestCase):
    def orders(self, run):
        """Looks at all arrangements of the calls."""
        many = len(run.calls)
        links = naive.arrows_of(run.cutting, run.calls, run.row)
        all_orders = [value for value in itertools.permutations(range(many)) if is_order_of(links, many, value)]
        self.assertEqual(order(run), all_orders[0] if all_orders else None)
        for value in itertools.permutations(range(many)):
            self.assertIs(is_order(run, value), value in all_orders)
        self.assertIs(ring(run) is None, bool(all_orders))
        if all_orders:
            self.puts_in_order(run)
        else:
            self.assertRaises(NotInOrder, exchanges, run)
        return bool(all_orders)

    def test_no_calls_and_one(self):
        run = Run(LINKS, ())
        self.assertEqual([arrows(run), order(run), exchanges(run), ring(run)], [[], (), [], None])
        self.assertEqual([is_order(run, ()), is_order(run, (0,)), is_ring(run, ())], [True, False, False])
        for row in ((), (0,), (0, 0)):
            run = Run(LINKS, (pay(1, 1),), row)
            self.assertEqual([arrows(run), order(run), exchanges(run), ring(run)], [[], (0,), [], None])
            self.assertEqual([is_order(run, (0,)), is_order(run, ()), is_ring(run, (0,))], [True, False, False])

    def test_the_first_one_and_not_that_of_the_row(self):
        run = Run(LINKS, (pay(1, 2), pay(3, 4), pay(5, 6)), (2, 1, 0, 2, 1, 0))
        self.assertEqual(order(run), (0, 1, 2))
        self.puts_in_order(run)
        run = Run(LINKS, (pay(1, 2), pay(3, 4), pay(5, 6)), (2, 2, 1, 1, 0, 0))
        self.assertEqual(order(run), (0, 1, 2))
        self.assertEqual(len(exchanges(run)), 12)
        self.puts_in_order(run)

    def test_calls_without_pieces(self):
        run = Run(LINKS, (pay(1, 2), pay(2, 1), pay(1, 2)), (2,))
        self.assertEqual([order(run), exchanges(run)], [(0, 1, 2), []])
        self.assertIs(is_order(run, (2, 0, 1)), True)

    def test_many_runs_of_all_shapes(self):
        for seed in range(120):
            self.orders(random_run(seed, most=4))
            self.orders(random_run(seed + 1000, most=5, over=False))

    def test_many_runs_of_five_calls(self):
        ordered = 0
        for seed in range(80):
            source = random.Random(seed)
            ordered += self.orders(linked_run(source, source.randint(2, 5)))
        self.assertTrue(10 < ordered < 75, ordered)

    def test_forty_calls(self):
        calls = tuple(pay(at, at + 1) for at in range(40))
        run = Run(LINKS, calls, tuple(range(40)) + tuple(range(39, -1, -1)))
        # Each call has read its item ahead of the put of the one before it.
        self.assertEqual(order(run), tuple(range(39, -1, -1)))
        self.puts_in_order(run)
        apart = Run(LINKS, tuple(pay(2 * at, 2 * at + 1) for at in range(40)), tuple(range(39, -1, -1)) * 2)
        self.assertEqual(order(apart), tuple(range(40)))
        self.puts_in_order(apart)
        whole = Run(LINKS, tuple(pay(0, 0) for _ in range(40)), tuple(range(40)) * 2)
        self.assertEqual([order(whole), ring(whole)], [None, (0, 1)])
        self.assertEqual(len(arrows(whole)), 40 * 39)

    def test_what_is_no_order(self):
        run = Run(LINKS, (pay(1, 2), pay(3, 4), pay(2, 5)), (0, 0, 1, 2, 2, 1))
        self.assertEqual([is_order(run, value) for value in ((0, 1, 2), (0, 2, 1), (1, 0, 2))], [True] * 3)
        others = (
            (0, 1),
            (0, 1, 2, 2),
            (0, 1, 1),
            (0, 2),
            (0, True, 2),
            (False, 1, 2),
            (0, 1.0, 2),
            [0, 1, 2],
            (0, 1, 3),
            (-1, 0, 1),
            (2, 1, 0),
            ((0, 1, 2),),
            ("0", "1", "2"),
            "012",
            range(3),
            {0: 0, 1: 1, 2: 2},
            (0, 1, Broken()),
            (0, 1, Same_of(2)),
            (0, 1, [2]),
            run,
            None,
        )
        for value in (*others, *STRANGE):
            with self.subTest(shown(value)):
                self.assertIs(is_order(run, value), False)


class Same_of:
    """Equals a number without being one."""

    def __init__(self, number):
        self.number = number

    def __eq__(self, other):
        return self.number == other

    def __hash__(self):
        return hash(self.number)


class TestExchanges(OrderTestCase):
    def test_each_position(self):
        run = Run(LINKS, (pay(1, 2), pay(3, 1), pay(4, 4)), (0, 2, 1, 1, 0, 2))
        # Neighbours: 0 and 2, 2 and 1, 1 and 1, 1 and 0, 0 and 2.
        for position, row in ((0, (2, 0, 1, 1, 0, 2)), (1, (0, 1, 2, 1, 0, 2)), (4, (0, 2, 1, 1, 2, 0))):
            found = exchanged(run, position)
            self.assertEqual(found.row, row)
            self.assertIs(type(found), Run)
            self.same_effect(run, found)
        self.assertEqual(exchanged(run, 3).row, (0, 2, 1, 0, 1, 2))
        for position in (2, 5, 6, 7, -1, -2, -6, 10**100, *STRANGE, "0", (0,), [0]):
            self.raises(InvalidNumber, position, exchanged, run, position)
        self.assertEqual(run.row, (0, 2, 1, 1, 0, 2))

    def test_pieces_that_do_not_commute(self):
        run = Run(LINKS, (pay(1, 2), pay(2, 1)), (0, 1, 0, 1))
        self.assertEqual(exchanged(run, 0).row, (1, 0, 0, 1))
        for position in (1, 3):
            self.raises(InvalidNumber, position, exchanged, run, position)
        self.assertEqual(exchanged(run, 2).row, (0, 1, 1, 0))

    def test_without_pieces(self):
        for run in (Run(LINKS, ()), Run(LINKS, (pay(1, 2),)), Run(LINKS, (pay(1, 2),), (0,))):
            for position in (0, 1, -1):
                self.raises(InvalidNumber, position, exchanged, run, position)

    def test_many_runs(self):
        done = 0
        for seed in range(150):
            run = random_run(seed)
            pieces = naive.row_pieces(run.cutting, run.calls, run.row)
            for position in range(len(run.row)):
                one, other = pieces[position][1], pieces[position + 1 : position + 2]
                can = bool(other) and run.row[position] != run.row[position + 1]
                if can and not any(naive.do_meet(*pair) for pair in itertools.product(one, other[0][1])):
                    found = exchanged(run, position)
                    self.assertEqual(sorted(arrows(found)), sorted(arrows(run)))
                    self.same_effect(run, found)
                    done += 1
                else:
                    self.raises(InvalidNumber, position, exchanged, run, position)
        self.assertGreater(done, 300)


class TestRings(OrderTestCase):
    def shortest(self, run):
        """Of the shortest rings that begin with their least call the first one, or None, found by trying all."""
        links = naive.arrows_of(run.cutting, run.calls, run.row)
        for size in range(2, len(run.calls) + 1):
            for value in itertools.permutations(range(len(run.calls)), size):
                if value[0] == min(value) and all(pair in links for pair in zip(value, value[1:] + value[:1])):
                    return value
        return None

    def test_of_two(self):
        run = Run(LINKS, (pay(3, 4), pay(1, 2), pay(2, 1)), (1, 2, 1, 2, 0, 0))
        self.assertEqual(ring(run), (1, 2))
        self.assertEqual([is_ring(run, value) for value in ((1, 2), (2, 1))], [True, True])
        self.assertEqual([is_ring(run, value) for value in ((0, 1), (0, 2))], [False, False])
        self.assertIs(order(run), None)

    def ring_of(self, calls, row, expected):
        run = Run(LINKS, calls, row)
        self.assertEqual(ring(run), expected)
        self.assertEqual(self.shortest(run), expected)
        for at in range(len(expected)):
            self.assertIs(is_ring(run, expected[at:] + expected[:at]), True)
        return run

    def test_of_three_and_more(self):
        for many in range(2, 7):
            # Each one reads what the next one puts later, the last one what the first one puts.
            calls = tuple(pay(at, (at - 1) % many) for at in range(many))
            self.ring_of(calls, tuple(range(many)) * 2, tuple(range(many)))
            back = self.ring_of(calls[::-1], tuple(range(many)) * 2, (0, *range(many - 1, 0, -1)))
            self.assertIs(is_ring(back, tuple(range(many - 1, -1, -1))), True)
        run = self.ring_of(calls, tuple(range(6)) * 2, (0, 1, 2, 3, 4, 5))
        for value in ((0, 2, 1, 3, 4, 5), (5, 4, 3, 2, 1, 0), (0, 1, 2, 3, 4), (0, 1), (1, 2, 3, 4, 5)):
            self.assertIs(is_ring(run, value), False)

    def test_the_first_of_the_shortest(self):
        # A ring of three calls with low numbers, and two of two calls with higher ones.
        three = (pay(0, 2), pay(1, 0), pay(2, 1))
        two = (pay(11, 12), pay(12, 11), pay(21, 22), pay(22, 21))
        calls = three + two
        self.ring_of(calls, tuple(range(7)) * 2, (3, 4))
        self.ring_of(calls, (*(0, 1, 2, 3, 3, 4, 5, 6), 4, 0, 1, 2, 5, 6), (5, 6))
        # All calls meet each other, so that there are many rings.
        self.ring_of((pay(0, 1), *(pay(1, 1) for _ in range(4))), (0, 4, 3, 2, 1) * 2, (0, 1))

    def test_forty_calls(self):
        calls = tuple(pay(at, (at - 1) % 40) for at in range(40))
        run = Run(LINKS, calls, tuple(range(40)) * 2)
        self.assertEqual(ring(run), tuple(range(40)))
        self.assertIs(is_ring(run, (*range(7, 40), *range(7))), True)
        self.assertEqual(order(run), None)

    def test_many_runs(self):
        sizes = set()
        for seed in range(150):
            source = random.Random(seed)
            run = linked_run(source, source.randint(2, 6))
            expected = self.shortest(run)
            self.assertEqual(ring(run), expected)
            self.assertIs(ring(run) is None, order(run) is not None)
            sizes.add(len(expected or ()))
            links = naive.arrows_of(run.cutting, run.calls, run.row)
            for _ in range(20):
                value = tuple(source.sample(range(len(run.calls)), source.randint(1, len(run.calls))))
                told = len(value) > 1 and all(pair in links for pair in zip(value, value[1:] + value[:1]))
                self.assertIs(is_ring(run, value), told)
        self.assertTrue({0, 2, 3} <= sizes, sizes)
        for seed in range(100):
            run = random_run(seed, most=4)
            self.assertEqual(ring(run), self.shortest(run))

    def test_what_is_no_ring(self):
        run = Run(LINKS, (pay(1, 2), pay(2, 1), pay(1, 1)), (0, 1, 2, 0, 1, 2))
        self.assertEqual([is_ring(run, value) for value in ((0, 1), (1, 0), (1, 2), (0, 2, 1))], [True] * 4)
        others = (
            (),
            (0,),
            (1,),
            (0, 0),
            (0, 1, 0),
            (0, 1, 0, 1),
            (0, 1, 1),
            [0, 1],
            (0, True),
            (False, 1),
            (0, 1.0),
            (0, 3),
            (0, -1),
            (-3, 1),
            ((0, 1),),
            "01",
            range(2),
            {0: 1, 1: 0},
            (0, Broken()),
            (0, Same_of(1)),
            (0, [1]),
            ((0, 1), (1, 0)),
            run,
        )
        for value in (*others, *STRANGE):
            with self.subTest(shown(value)):
                self.assertIs(is_ring(run, value), False)


class TestErrors(OrderTestCase):
    def test_no_runs(self):
        run = Run(LINKS, (pay(1, 2), pay(2, 1)), (0, 1, 0, 1))
        look = {"cutting": LINKS, "calls": run.calls, "row": run.row}
        others = (*STRANGE, 0, "run", run.row, run.calls, LINKS, Run, Posing(Run, **look))
        for value in (*others, types.SimpleNamespace(**look)):
            for function in (arrows, order, exchanges, ring):
                self.raises(InvalidRun, value, function, value)
            for more in ((0, 1), 0, 9, None, True, Broken()):
                for function in (is_order, is_ring, exchanged):
                    self.raises(InvalidRun, value, function, value, more)

    def test_not_in_order(self):
        run = Run(LINKS, (pay(1, 2), pay(2, 1)), (0, 1, 0, 1))
        with self.assertRaises(NotInOrder) as caught:
            exchanges(run)
        self.assertIs(type(caught.exception), NotInOrder)
        self.assertEqual(run.row, (0, 1, 0, 1))
        self.assertIs(order(run), None)


if __name__ == "__main__":
    unittest.main()
