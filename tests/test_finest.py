"""Points 2 and 24 to 26: wrong cuts, right cuttings, the finest one, and runs that show what is wrong."""

import random
import time
import types
import unittest

import naive
import slowly
from finestcuts.cuttings import Cutting
from finestcuts.errors import InvalidCutting, InvalidSystem
from finestcuts.finest import finest, is_right, wrong_cuts, wrong_run
from finestcuts.orders import arrows, is_ring, order, ring
from finestcuts.runs import Run, all_rows
from finestcuts.systems import System
from finestcuts.texts import format_system, parse_system
from making import NAMES, SmallMaker, largest_system, values_for
from objects import STRANGE, Broken, Posing, RaisingTestCase

PAY = "kind pay a b\n  unlike a b\n  add money[a] -5\n  add money[b] 5\n  put seen[a] 1\nend"
BOTH = "kind both c d\n  read money[c] x\n  read money[d] y\nend"
LOOK = "kind look c\n  read m[c] x\nend"


def kind_text(*steps, name="pay a", flags=""):
    return "\n".join([f"kind {name}", *[f"  {row}" for row in (*flags.split(), *steps)], "end"])


def system_of(*texts):
    return parse_system("\n".join(texts))


class FinestTestCase(RaisingTestCase):
    def wrong(self, system, *positions, name="pay"):
        """Just the cuts of a kind at these positions are wrong, whichever other cuts there are."""
        kind = system[name]
        single = Cutting.single(system)
        with self.subTest(format_system(system)):
            found = [position for owner, position in wrong_cuts(single) if owner == name]
            self.assertEqual(found, list(positions))
            self.assertEqual(
                [cut for cut in finest(system).cuts if cut[0] == name],
                [(name, position) for position in range(1, len(kind)) if position not in positions],
            )
            for position in range(1, len(kind)):
                cutting = Cutting(system, [(name, position)])
                self.assertEqual(wrong_cuts(cutting), [(name, position)] if position in positions else [])
                self.assertIs(is_right(cutting), position not in positions)
                self.shows(cutting)

    def shows(self, cutting):
        """The run that is told for a cutting shows that it is wrong."""
        run = wrong_run(cutting)
        self.assertIs(run is None, is_right(cutting))
        if run is None:
            return None
        self.assertIs(type(run), Run)
        self.assertIs(run.cutting == cutting, True)
        self.assertIs(run.is_timely, True)
        self.assertTrue(wrong_run(cutting) == run)
        has_ring = naive.has_ring(naive.arrows_of(cutting, run.calls, run.row), len(run.calls))
        self.assertIs(ring(run) is not None, has_ring)
        self.assertTrue(has_ring or slowly.leaves_behind(cutting, run.calls, run.row))
        return run

    def stopped(self, run):
        return [call[3] for call in run.calls if call[3] is not None]


class TestExample(FinestTestCase):
    def test_the_example(self):
        system = system_of(PAY, BOTH)
        run = wrong_run(Cutting(system, [("pay", 1)]))
        found = [finest(system).cuts, is_right(Cutting(system, [("both", 1)])), len(run), ring(run)]
        self.assertEqual(found, [(("pay", 2),), False, 3, (0, 1)])
        self.assertEqual(self.stopped(self.shows(Cutting.single(system))), [])

    def test_by_name(self):
        system = system_of(PAY, BOTH)
        cutting = Cutting.single(system)
        self.assertTrue(finest(system=system) == finest(system))
        self.assertEqual(wrong_cuts(cutting=cutting), [("both", 1), ("pay", 1)])
        self.assertIs(is_right(cutting=cutting), False)
        self.assertTrue(wrong_run(cutting=cutting) == wrong_run(cutting))


class TestBadPairs(FinestTestCase):
    def test_first_and_last_step_and_beside(self):
        steps = ["put s[a] 1", "put m[a] 1", "put t[a] 1", "put u[a] 1", "put m[a] 2", "put v[a] 1"]
        self.wrong(system_of(kind_text(*steps), LOOK), 2, 3, 4)
        self.wrong(system_of(kind_text(*steps[1:]), LOOK), 1, 2, 3)
        self.wrong(system_of(kind_text(*steps[:-1]), LOOK), 2, 3, 4)
        self.wrong(system_of(kind_text(*steps[:4]), LOOK))
        # The two puts of this kind meet each other, even if nobody looks.
        self.wrong(system_of(kind_text(*steps)), 2, 3, 4)

    def test_two_bad_pairs(self):
        steps = ["put m[a] 1", "put m[a] 2", "put s[a] 1", "put t[a] 1", "put t[a] 2"]
        self.wrong(system_of(kind_text(*steps)), 1, 2, 3, 4)
        system = system_of(kind_text(*steps, flags="alone"), LOOK, "kind both c\n  read t[c] x\nend")
        self.wrong(system, 1, 4)
        self.wrong(system_of(kind_text(*steps, flags="alone")))

    def test_chooses(self):
        choose = "choose\n    put m[a] 1\n  or\n    put s[a] 1\n  end"
        system = system_of(kind_text(choose, "put t[a] 1", "choose\n  or\n    put m[a] 2\n  end", "put u[a] 1"), LOOK)
        self.wrong(system, 1, 2)
        run = self.shows(Cutting(system, [("pay", 2)]))
        self.assertEqual([call[2] for call in run.calls if call[0] == "pay"][0], (0, 1))

    def test_values(self):
        system = system_of(kind_text("put m[a] 1", "put m[b] 1", name="pay a b", flags=""), LOOK)
        self.wrong(system, 1)
        apart = kind_text("unlike a 7", "alone", "put m[a] 1", "read s[7] x", name="pay a")
        self.wrong(system_of(apart, "kind look c\n  read m[c] x\n  put s[c] 1\nend"))
        self.wrong(system_of(apart, "kind look c d\n  read m[c] x\n  put s[d] 1\nend"), 1)
        two = "kind both c\n  put m[c] 3\n  put t[c] 1\nend"
        look = "kind look c\n  read m[c] x\n  put s[c] 1\nend"
        self.wrong(system_of(apart, look, two, "kind move\n  read t[7] x\nend"))

    def test_alone(self):
        text = kind_text("add m[a] 1", "add m[b] 1", name="pay a b", flags="{}")
        both = "kind both c d\n{}  read m[c] x\n  read m[d] y\nend"
        self.wrong(system_of(text.format("alone"), both.format("")), 1)
        self.wrong(system_of(text.format("alone"), both.format("")), 1, name="both")
        self.wrong(system_of(text.format("alone"), both.format("  alone\n")))
        self.wrong(system_of(text.format("alone"), both.format("  alone\n")), name="both")
        system = system_of(text.replace("  {}\n", ""), both.format("  alone\n"))
        self.wrong(system, 1)
        self.wrong(system, 1, name="both")

    def test_kinds_of_one_step(self):
        system = system_of(kind_text("put m[a] 1"), "kind look\n  check x\nend")
        self.assertEqual([finest(system).cuts, wrong_cuts(Cutting.single(system))], [(), []])
        self.assertIs(is_right(Cutting.single(system)), True)
        self.assertIsNone(wrong_run(Cutting.whole(system)))


class TestChecks(FinestTestCase):
    def test_at_behind_and_ahead(self):
        for flags, words in (("", ("read",)), ("backs", ("read", "add"))):
            for word in ("read", "add", "put", "raise", "lower"):
                deed = f"{word} s[a] x" if word == "read" else f"{word} s[a] 1"
                stays = word in words
                for steps, positions in (
                    ((deed, "check x"), (1,)),
                    ((deed, "read t[a] x", "check x"), (1, 2)),
                    (("check x", deed, "read t[a] x", "read t[a] x"), ()),
                    (("read t[a] x", "check x", deed, "check x", "check x", "read t[a] x"), (3, 4)),
                    (("check x", deed, "check x", deed), (2,)),
                ):
                    self.wrong(system_of(kind_text(*steps, flags=flags)), *(() if stays else positions))

    def test_within_chooses(self):
        words = (("", "add", False), ("backs", "add", True), ("", "raise", False), ("backs", "put", False))
        for flags, word, stays in words:
            for first, second in (("", f"    {word} s[a] 1\n"), (f"    read t[a] x\n    {word} s[a] 1\n", "")):
                choose = f"choose\n{first}  or\n{second}  end"
                system = system_of(kind_text(choose, "read t[a] x", "check x", flags=flags))
                self.wrong(system, *(() if stays else (1, 2)))
                if not stays:
                    run = self.shows(Cutting(system, [("pay", 2)]))
                    self.assertEqual([len(run.calls), self.stopped(run), run.is_over], [1, [2], True])
        self.wrong(system_of(kind_text("choose\n    read s[a] x\n  or\n  end", "check x")))

    def test_a_call_that_leaves_something_behind(self):
        system = system_of(kind_text("read t[a] x", "put s[a] 1", "read t[0] y", "check x", "check y"))
        run = self.shows(Cutting(system, [("pay", 1), ("pay", 2), ("pay", 4)]))
        self.assertEqual((len(run.calls), run.is_over), (1, True))
        self.assertIs(slowly.leaves_behind(run.cutting, run.calls, run.row), True)
        run = self.shows(Cutting(system, [("pay", 4)]))
        self.assertEqual(self.stopped(run), [4])

    def test_ways_to_what_is_taken_back(self):
        # Looking ahead of the cut and adding ahead of it: what was read can be changed between.
        text = kind_text("add m[a] 1", "add s[b] 1", "check x", name="pay a b", flags="backs")
        self.wrong(system_of(text))
        system = system_of(text, LOOK)
        self.wrong(system, 1, 2)
        run = self.shows(Cutting(system, [("pay", 1)]))
        self.assertEqual((len(run.calls), self.stopped(run), run.is_over), (2, [2], True))
        self.assertIs(is_ring(run, (0, 1)), True)
        # The way leads from the add to itself, over a kind that looks.
        self.assertIs(is_right(Cutting(system, [("pay", 2)])), False)
        self.assertEqual(self.stopped(self.shows(Cutting(system, [("pay", 2)]))), [2])
        # Nobody can come between where the check is ahead of the cut.
        late = kind_text("check x", "add m[a] 1", "add s[b] 1", name="pay a b", flags="backs")
        self.wrong(system_of(late, LOOK))

    def test_ways_from_a_read_to_an_add(self):
        steps = ("read m[a] x", "add s[a] 1", "read t[a] x", "check x")
        meets = "kind both c\n  put m[c] 1\n  read s[c] y\nend"
        for flags in ("", "backs", "alone", "backs alone"):
            text = kind_text(*steps, flags=flags)
            self.wrong(system_of(text, meets), 1, 2, 3)
            self.wrong(system_of(text, "kind both c\n  put m[c] 1\nend"), *(() if "backs" in flags else (2, 3)))
            self.wrong(system_of(text, "kind both c\n  read s[c] y\nend"), 2, 3)
        # A way only to the read, or only from it, is none to an add.
        self.wrong(system_of(kind_text("read m[a] x", "read t[a] x", "check x", flags="backs"), meets))

    def test_adds_that_only_meet_adds(self):
        text = kind_text("add m[a] 1", "check x", "add m[a] 1", "put s[a] 1", flags="backs")
        self.wrong(system_of(text))
        self.wrong(system_of(text, "kind move c\n  add m[c] 3\nend"))
        # Between the adds it lies within a bad pair, behind them no check stands.
        self.wrong(system_of(text, LOOK), 1, 2)

    def test_a_bad_pair_ahead_of_a_check(self):
        text = kind_text("add m[a] 1", "put s[a] 1", "check x", "add m[a] 1", flags="backs")
        system = system_of(text, LOOK)
        run = self.shows(Cutting(system, [("pay", 2)]))
        self.assertEqual((len(run.calls), self.stopped(run)), (2, []))
        self.wrong(system, 1, 2, 3)


class TestFinest(FinestTestCase):
    def test_all_none_and_some(self):
        both = "kind both c\n  read t[c] x\n  put u[c] 1\nend"
        system = system_of(kind_text("put m[a] 1", "put m[a] 2", "put s[a] 1"), both)
        single = Cutting.single(system)
        self.assertEqual(wrong_cuts(single), [("pay", 1)])
        self.assertEqual(finest(system).cuts, (("both", 1), ("pay", 2)))
        self.assertTrue(finest(system) == Cutting(system, [("both", 1), ("pay", 2)]))
        for cuts, wrong in (((), []), ((("pay", 2),), []), ((("pay", 1), ("both", 1)), [("pay", 1)])):
            cutting = Cutting(system, cuts)
            found = wrong_cuts(cutting)
            self.assertEqual([found, is_right(cutting)], [wrong, not wrong])
            self.assertIs(is_right(cutting), cutting.is_coarser(finest(system)))
            found.append(None)
            self.assertEqual(wrong_cuts(cutting), wrong)
        for steps in (("put m[a] 1", "put m[a] 2", "put m[a] 3"), ("put m[a] 1", "put s[a] 1", "put m[a] 3")):
            system = system_of(kind_text(*steps))
            self.assertEqual(finest(system).cuts, ())
            self.assertEqual(wrong_cuts(Cutting.single(system)), [("pay", 1), ("pay", 2)])
        system = system_of(kind_text("add m[a] 1", "add m[b] 2", "add s[a] 3", name="pay a b"))
        self.assertTrue(finest(system) == Cutting.single(system))

    def test_equal_systems(self):
        one, other = system_of(PAY, BOTH), System(system_of(PAY, BOTH).kinds, most=3)
        self.assertTrue(finest(one) == finest(other))
        self.assertEqual(wrong_cuts(Cutting.single(one)), wrong_cuts(Cutting.single(other)))
        self.assertTrue(wrong_run(Cutting.single(one)) == wrong_run(Cutting.single(other)))
        other = system_of(BOTH, PAY)
        self.assertFalse(finest(one) == finest(other))
        self.assertEqual(finest(one).cuts, finest(other).cuts)
        self.assertEqual(wrong_cuts(Cutting.single(one)), wrong_cuts(Cutting.single(other)))
        for cuts in ((), (("pay", 1),), (("pay", 2),)):
            self.assertFalse(finest(one) == Cutting(one, cuts) and cuts != (("pay", 2),))

    def test_small_systems(self):
        rights = 0
        for seed in range(250):
            source = random.Random(seed)
            system = SmallMaker(source, steps=4).system()
            ways = slowly.ways_of(system, values_for(system))
            single = Cutting.single(system)
            wrong = slowly.wrong_cuts_of(single, ways)
            with self.subTest(format_system(system)):
                self.assertEqual(wrong_cuts(single), wrong)
                best = finest(system)
                self.assertEqual(best.cuts, tuple(cut for cut in single if cut not in wrong))
                for _ in range(3):
                    cutting = Cutting(system, [cut for cut in single if source.random() < 0.4])
                    self.assertEqual(wrong_cuts(cutting), [cut for cut in wrong if cut in cutting])
                    self.assertIs(is_right(cutting), cutting.is_coarser(best))
                    rights += is_right(cutting)
                    run = self.shows(cutting)
                    if any(slowly.is_within_bad_pair(system[name], at, ways[name]) for name, at in cutting):
                        self.assertEqual(self.stopped(run), [])
                        self.assertIsNotNone(ring(run))
        self.assertTrue(200 < rights < 650, rights)


class TestRuns(FinestTestCase):
    def fewest(self, cutting, many, domain):
        """The run has so many calls, and no run with fewer ones has a ring."""
        run = self.shows(cutting)
        self.assertEqual(len(run.calls), many)
        self.assertEqual(self.stopped(run), [])
        whole = list(naive.whole_calls(cutting.system, domain))
        for fewer in range(1, many):
            self.assertIsNone(next(slowly.bad_runs(cutting, fewer, whole), None))
        self.assertIsNone(order(run))
        self.assertEqual(len(ring(run)), many)

    def test_two_calls(self):
        self.fewest(Cutting(system_of(PAY, BOTH), [("pay", 1)]), 2, (1, 2))
        self.fewest(Cutting(system_of(PAY, BOTH), [("both", 1)]), 2, (1, 2))

    def test_three_calls(self):
        steps = ("put m[a] 1", "put s[a] 1")
        look = "kind look c\n  read m[c] x\n  put t[c] 1\nend"
        system = system_of(kind_text(*steps), look, "kind both c\n  read t[c] x\n  read s[c] y\nend")
        self.fewest(Cutting(system, [("pay", 1)]), 3, (1, 2))

    def test_four_calls(self):
        system = system_of(kind_text("unlike a b", "add m[a] 1", "add m[b] 1", name="pay a b"), LOOK)
        self.fewest(Cutting(system, [("pay", 1)]), 4, (1, 2))

    def test_more_than_four_calls(self):
        text = """kind pay\n  alone\n  put p[0] 1\n  put q[0] 1\nend
kind look\n  read p[0] x\n  read u[0] y\nend
kind both\n  put u[0] 1\n  put v[0] 1\nend
kind move\n  read v[0] x\n  read w[0] y\nend
kind lose\n  put w[0] 1\n  read q[0] x\nend"""
        cutting = Cutting(parse_system(text), [("pay", 1)])
        run = self.shows(cutting)
        self.assertEqual(len(run.calls), 5)
        self.assertEqual([ring(run), arrows(run)], [(0, 1, 2, 3, 4), [(0, 1), (1, 2), (2, 3), (3, 4), (4, 0)]])
        for many in range(1, 5):
            self.assertIsNone(next(slowly.bad_runs(cutting, many, list(naive.whole_calls(cutting.system, ()))), None))

    def test_the_shortest_of_several_ways(self):
        # A cut of the first kind needs four calls, one of the last kind only two.
        texts = (
            "kind pay a b\n  unlike a b\n  add m[a] 1\n  add m[b] 1\nend",
            LOOK,
            "kind both c\n  put t[c] 1\n  put t[c] 2\nend",
        )
        for order_of_texts in (texts, texts[::-1]):
            system = system_of(*order_of_texts)
            self.fewest(Cutting.single(system), 2, (1, 2))
            self.assertEqual(len(wrong_run(Cutting(system, [("pay", 1)])).calls), 4)
        texts = (
            "kind pay\n  alone\n  put m[0] 1\n  put s[0] 1\nend",
            "kind look\n  read m[0] x\n  read t[0] x\nend",
            "kind both\n  put t[0] 1\n  read s[0] x\n  put u[0] 1\n  put u[0] 2\nend",
        )
        for order_of_texts in (texts, texts[::-1]):
            system = system_of(*order_of_texts)
            self.fewest(Cutting(system, [("pay", 1), ("both", 3)]), 2, ())
            self.fewest(Cutting(system, [("pay", 1)]), 3, ())

    def test_alone_calls_in_between(self):
        text = "kind both c d\n  alone\n  read money[c] x\n  read money[d] y\nend"
        system = system_of(PAY, text)
        for cut in (("pay", 1), ("both", 1)):
            self.fewest(Cutting(system, [cut]), 2, (1, 2))
        self.fewest(Cutting(system, [("pay", 1), ("both", 1)]), 2, (1, 2))

    def test_fewer_calls_of_small_systems(self):
        found = {}
        for seed in range(200):
            system = SmallMaker(random.Random(seed), kinds=2).system()
            domain = (*system.constants, 20, 21)
            whole = list(naive.whole_calls(system, domain))
            if len(whole) > 16:
                continue
            for cut in Cutting.single(system):
                run = wrong_run(Cutting(system, [cut]))
                if run is not None and not self.stopped(run) and len(run.calls) <= 3:
                    self.fewest(Cutting(system, [cut]), len(run.calls), domain)
                    found[len(run.calls)] = found.get(len(run.calls), 0) + 1
        self.assertGreater(found[2], 10, found)

    def test_right_cuttings_have_no_bad_runs(self):
        pairs, triples = 0, 0
        for seed in range(120):
            system = SmallMaker(random.Random(seed), parameters=1, kinds=2).system()
            best = finest(system)
            calls = list(slowly.all_calls(system, (*system.constants, 20, 21)))
            for many, most in ((1, 30), (2, 20), (3, 7)):
                if len(calls) <= most:
                    self.assertIsNone(next(slowly.bad_runs(best, many, calls), None))
                    pairs += many == 2
                    triples += many == 3
        self.assertGreater(pairs, 50)
        self.assertGreater(triples, 5)

    def test_all_rows_of_a_right_cutting(self):
        text = kind_text("read m[a] x", "add s[a] 1", "check x", "put s[a] 1", "read t[a] x", flags="backs")
        both = "kind both c d\n  alone\n  put t[c] 1\n  put u[d] 1\nend"
        system = system_of(text, both, "kind look c\n  read u[c] x\nend")
        best = finest(system)
        self.assertEqual(best.cuts, (("both", 1), ("pay", 1)))
        for stop in (None, 2):
            calls = (("pay", (1,), (), stop), ("pay", (1,), (), None))
            calls = (*calls, ("both", (1, 2), (), None), ("look", (2,), (), None))
            many = 0
            for row in all_rows(best, calls):
                run = Run(best, calls, row)
                self.assertIsNotNone(order(run))
                self.assertIs(slowly.leaves_behind(best, calls, row), False)
                many += 1
            self.assertGreater(many, 200)


class TestLargest(FinestTestCase):
    def test_in_a_short_time(self):
        begun = time.monotonic()
        for alone in ((), NAMES[:2], NAMES):
            for backs in (False, True):
                system = largest_system(alone, backs=backs, check=True)
                single = Cutting.single(system)
                found = wrong_cuts(single)
                if alone == NAMES:
                    # Nothing comes between, so that only what stays behind is wrong.
                    expected = range(5, 8) if backs else range(1, 8)
                    self.assertEqual(found, [(name, at) for name in sorted(NAMES) for at in expected])
                else:
                    self.assertEqual(found, list(single.cuts))
                self.assertEqual(finest(system), Cutting(system, [cut for cut in single if cut not in found]))
                run = self.shows(single)
                self.assertEqual(len(run.calls), 1 if alone == NAMES else 2)
        self.assertLess(time.monotonic() - begun, 20)


class TestErrors(FinestTestCase):
    def test_no_cuttings(self):
        system = system_of(PAY, BOTH)
        look = {"system": system, "cuts": ()}
        others = (*STRANGE, 0, "pay", PAY, system, Cutting, (), (("pay", 1),), Posing(Cutting, **look))
        for value in (*others, types.SimpleNamespace(**look)):
            for function in (is_right, wrong_cuts, wrong_run):
                self.raises(InvalidCutting, value, function, value)

    def test_no_systems(self):
        system = system_of(PAY, BOTH)
        look = {"kinds": system.kinds, "names": system.names, "constants": ()}
        others = (*STRANGE, 0, "pay", PAY, system.kinds, Cutting.whole(system), System, Posing(System, **look))
        for value in (*others, types.SimpleNamespace(**look), Broken()):
            self.raises(InvalidSystem, value, finest, value)


if __name__ == "__main__":
    unittest.main()
