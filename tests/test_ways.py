"""Points 2 and 21 to 23: ways, bad pairs and loops."""

import random
import time
import types
import unittest

import naive
from finestcuts.errors import InvalidNumber, InvalidSystem, UnknownKind
from finestcuts.systems import System
from finestcuts.texts import format_system, parse_system
from finestcuts.ways import bad_pairs, is_way, loops, way
from making import NAMES, SmallMaker, largest_system, values_for
from objects import NO_NAMES, STRANGE, Broken, Posing, RaisingTestCase, shown

PAY = "kind pay a b\n  unlike a b\n  add money[a] -5\n  add money[b] 5\nend"
LOOK = "kind look c\n  read money[c] x\nend"
BOTH = "kind both c d\n  read money[c] x\n  read money[d] y\nend"
ALONE = PAY.replace("  unlike a b", "  unlike a b\n  alone")
# Tables lead from one to the next one: u is entered from p, v from u, w from v, and q is left to.
LONG = """kind pay a b
{flag}  put p[a] 1
  put q[b] 1
end
kind look a b
  read p[a] x
  read u[b] y
end
kind both a b
  put u[a] 1
  put v[b] 1
end
kind move a b
  read v[a] x
  read w[b] y
end
kind lose a b
  put w[a] 1
  read q[b] x
end"""


def system_of(*texts):
    return parse_system("\n".join(texts))


class WayTestCase(RaisingTestCase):
    def fewest(self, system, name, first, last, many):
        """A way has so many calls, also the other way round; None if there is none."""
        with self.subTest(name=name, first=first, last=last):
            for one, other in ((first, last), (last, first)):
                found = way(system, name, one, other)
                if many is None:
                    self.assertIsNone(found)
                    continue
                self.assertEqual([type(found), len(found), type(found[0]), type(found[1])], [tuple, 2, tuple, tuple])
                self.assertEqual(len(found[1]), many)
                self.assertIs(is_way(system, name, one, other, found), True)
                self.check_parts(found)
                self.assertEqual(way(system, name, one, other), found)
            pair = (min(first, last), max(first, last))
            self.assertIs(pair in loops(system, name), many is not None)
        return way(system, name, first, last)

    def check_parts(self, found):
        """All parts of a way are of the classes of the document."""
        values, calls = found
        self.assertEqual({type(value) for value in values} - {int}, set())
        for call in calls:
            self.assertEqual([type(part) for part in call], [str, tuple, int, int])
            self.assertEqual({type(value) for value in call[1]} - {int}, set())

    def pairs(self, system, name, *expected):
        for _ in range(2):
            found = bad_pairs(system, name)
            self.assertEqual(found, list(expected))
            self.assertIs(type(found), list)
            found.append(None)
            found = loops(system, name)
            self.assertIs(type(found), list)
            found.append(None)
        self.assertNotIn(None, loops(system, name))


class TestExample(WayTestCase):
    def test_the_example(self):
        systems = [system_of(*texts) for texts in ((PAY,), (PAY, LOOK), (PAY, BOTH), (ALONE, LOOK), (ALONE, BOTH))]
        self.assertEqual([bad_pairs(system, "pay") for system in systems], [[], [(0, 1)], [(0, 1)], [], [(0, 1)]])
        for system, many in zip(systems, (None, 3, 1, None, 1), strict=True):
            self.fewest(system, "pay", 0, 1, many)

    def test_by_name(self):
        system = system_of(PAY, BOTH)
        found = way(last=1, first=0, name="pay", system=system)
        self.assertEqual(found, way(system, "pay", 0, 1))
        self.assertIs(is_way(value=found, last=1, first=0, name="pay", system=system), True)
        self.assertIs(is_way(value=found, last=0, first=1, name="pay", system=system), False)
        self.assertEqual(bad_pairs(name="pay", system=system), [(0, 1)])
        self.assertEqual(loops(name="pay", system=system), [(0, 0), (0, 1), (1, 1)])


class TestShortWays(WayTestCase):
    def test_two_calls(self):
        system = system_of(
            "kind pay a\n  put m[a] 1\n  put s[a] 1\nend",
            "kind look b\n  read m[b] x\n  put t[b] 1\nend",
            "kind both b\n  read t[b] x\n  read s[b] y\nend",
        )
        calls = self.fewest(system, "pay", 0, 1, 2)[1]
        self.assertEqual([(name, entered, left) for name, _, entered, left in calls], [("look", 0, 1), ("both", 0, 1)])
        self.pairs(system, "pay", (0, 1))
        self.pairs(system, "look", (0, 1))
        self.pairs(system, "both", (0, 1))

    def test_through_the_same_kind(self):
        system = system_of("kind pay a b\n  read m[a] x\n  put m[b] x\nend")
        self.fewest(system, "pay", 0, 1, 1)
        self.fewest(system, "pay", 0, 0, 1)
        self.fewest(system, "pay", 1, 1, 1)
        self.assertEqual(loops(system, "pay"), [(0, 0), (0, 1), (1, 1)])
        self.pairs(system, "pay", (0, 1))
        alone = system_of("kind pay a b\n  alone\n  read m[a] x\n  put m[b] x\nend")
        for first, last in ((0, 1), (0, 0), (1, 1)):
            self.fewest(alone, "pay", first, last, None)
        self.pairs(alone, "pay")

    def test_three_calls_with_the_same_kind_in_the_middle(self):
        found = self.fewest(system_of(PAY, LOOK), "pay", 0, 1, 3)
        self.assertEqual([call[0] for call in found[1]], ["look", "pay", "look"])
        self.assertEqual([(entered, left) for _, _, entered, left in found[1]], [(0, 0), (0, 1), (0, 0)])

    def test_a_deed_and_itself(self):
        for word in ("add m[a] 1", "put m[a] 1", "raise m[a] a", "lower m[a] 1", "read m[a] x"):
            system = system_of(f"kind pay a\n  {word}\nend")
            self.fewest(system, "pay", 0, 0, None)
            self.assertEqual(loops(system, "pay"), [])
        for word in ("add m[a] 1", "put m[a] 1", "raise m[a] 1", "lower m[a] 1"):
            system = system_of(f"kind pay a\n  {word}\nend", LOOK.replace("money", "m"))
            self.fewest(system, "pay", 0, 0, 1)
            self.assertEqual(loops(system, "pay"), [(0, 0)])
            self.pairs(system, "pay")
        # What is put depends on the parameter, so that it clashes with itself.
        self.fewest(system_of("kind pay a\n  put m[0] a\nend"), "pay", 0, 0, 1)

    def test_other_tables_and_items(self):
        for other in ("read s[c] x", "read money[0] x"):
            text = f"kind look c\n  unlike c 0\n  {other}\nend"
            self.fewest(system_of(PAY.replace("[b]", "[1]").replace("[a]", "[2]"), text), "pay", 0, 1, None)

    def test_without_deeds(self):
        system = system_of("kind pay\n  check x\nend")
        self.assertEqual([bad_pairs(system, "pay"), loops(system, "pay")], [[], []])
        self.raises(InvalidNumber, 0, way, system, "pay", 0, 0)


class TestChooses(WayTestCase):
    CHOOSE = "kind pay a\n  choose\n    put m[a] 1\n    put s[a] 1\n  or\n    put t[a] 1\n  end\n  put u[a] 1\nend"
    ALL = "kind look a\n  read m[a] x\n  read s[a] x\n  read t[a] x\n  read u[a] x\nend"

    def test_deeds_of_one_tuple_and_of_both(self):
        system = system_of(self.CHOOSE, self.ALL)
        for first, last, many in ((0, 1, 1), (0, 0, 1), (2, 2, 1), (0, 3, 1), (1, 3, 1), (2, 3, 1)):
            self.fewest(system, "pay", first, last, many)
        for last in (0, 1):
            self.fewest(system, "pay", last, 2, None)
        self.assertEqual(loops(system, "pay"), [(0, 0), (0, 1), (0, 3), (1, 1), (1, 3), (2, 2), (2, 3), (3, 3)])
        self.pairs(system, "pay", (0, 1))
        found = way(system, "pay", 0, 1)
        self.assertIs(is_way(system, "pay", 0, 2, (found[0], (("look", found[0], 0, 2),))), False)

    def test_entered_and_left_at_both_tuples(self):
        text = self.CHOOSE.replace("pay", "both", 1)
        one = "kind move b c\n  alone\n  read m[b] x\n  read {}[c] y\nend"
        self.fewest(system_of(text, one.format("s")), "move", 0, 1, 1)
        self.fewest(system_of(text, one.format("t")), "move", 0, 1, None)
        self.fewest(system_of(text, one.format("u")), "move", 0, 1, 1)
        # Calls that meet both can stand between two that are of one tuple each.
        joint = "kind look b c\n  read u[b] x\n  read u[c] x\nend"
        system = system_of(text, joint, one.format("t"))
        found = self.fewest(system, "move", 0, 1, 3)
        self.assertEqual([call[0] for call in found[1]], ["both", "look", "both"])
        wrong = (found[0], (("both", found[1][0][1], 0, 2),))
        self.assertIs(is_way(system, "move", 0, 1, wrong), False)


class TestParameters(WayTestCase):
    def test_constants(self):
        text = "kind pay\n  put m[1] 1\n  put m[2] 1\nend"
        for other, many in (
            ("kind look\n  read m[1] x\n  read m[2] x\nend", 1),
            ("kind look a\n  read m[a] x\nend", 3),
            ("kind look a\n  unlike a 2\n  read m[a] x\nend", None),
            ("kind look a\n  unlike a 3\n  read m[a] x\nend", 3),
            ("kind look a b\n  read m[a] x\n  read m[b] x\nend", 1),
            ("kind look a b\n  unlike a 1\n  unlike b 2\n  read m[a] x\n  read m[b] x\nend", 1),
            ("kind look a b\n  unlike a 1\n  unlike b 1\n  read m[a] x\n  read m[b] x\nend", None),
        ):
            self.fewest(system_of(text, other), "pay", 0, 1, many)

    def test_parameters_that_are_unlike(self):
        text = "kind pay\n  alone\n  put m[1] 1\n  put s[1] 1\nend"
        other = "kind look a b\n{}  read m[a] x\n  read s[b] x\nend"
        self.fewest(system_of(text, other.format("")), "pay", 0, 1, 1)
        self.fewest(system_of(text, other.format("  unlike a b\n")), "pay", 0, 1, None)
        self.fewest(system_of(text, other.format("  unlike a 1\n")), "pay", 0, 1, None)
        self.fewest(system_of(text, other.format("  unlike b 1\n")), "pay", 0, 1, None)
        self.fewest(system_of(text, other.format("  unlike a 2\n")), "pay", 0, 1, 1)
        # Two calls can do what one cannot: over another value of a second table.
        more = "kind both a b\n  put t[a] 1\n  put t[b] 1\n  read s[b] y\nend"
        system = system_of(text, other.format("  unlike a b\n").replace("end", "  read t[b] x\nend"), more)
        self.fewest(system, "pay", 0, 1, 2)

    def test_ends_with_values_that_are_unlike_each_other(self):
        same = "kind look c\n  read m[c] x\n  read s[c] x\nend"
        for flag, many in (("", 1), ("  unlike a b\n", None), ("  unlike a 5\n", 1), ("  unlike b 5\n", 1)):
            system = system_of(f"kind pay a b\n{flag}  alone\n  put m[a] 1\n  put s[b] 1\nend", same)
            self.fewest(system, "pay", 0, 1, many)
            if many:
                (one, other), _ = way(system, "pay", 0, 1)
                self.assertEqual(one, other)
                self.assertNotEqual(one, 5 if flag else None)
        two = "kind look c d\n  unlike c d\n  read m[c] x\n  read s[d] x\nend"
        for flag, many in (("", 1), ("  unlike a b\n", 1)):
            system = system_of(f"kind pay a b\n{flag}  alone\n  put m[a] 1\n  put s[b] 1\nend", two)
            (one, other), _ = self.fewest(system, "pay", 0, 1, many)
            self.assertNotEqual(one, other)
        system = system_of("kind pay a\n  alone\n  put m[a] 1\n  put s[a] 1\nend", two)
        self.fewest(system, "pay", 0, 1, None)
        system = system_of("kind pay a\n  unlike a 5\n  alone\n  put m[a] 1\n  put s[5] 1\nend", same)
        self.fewest(system, "pay", 0, 1, None)

    def test_other_values_that_are_unlike_each_other(self):
        # One call leads from the first value to another one, the next one from there to a third one.
        text = "kind pay a b\n{}  alone\n  put m[a] 1\n  put s[b] 1\nend"
        first = "kind look a b\n  unlike a b\n  read m[a] x\n  put t[b] 1\nend"
        second = "kind both a b\n  unlike a b\n  read t[a] x\n  read s[b] x\nend"
        system = system_of(text.format("  unlike a b\n"), first, second)
        (one, other), calls = self.fewest(system, "pay", 0, 1, 2)
        self.assertEqual(len({one, other, calls[0][1][1]}), 3)
        self.fewest(system_of(text.format(""), first, second), "pay", 0, 1, 2)
        self.fewest(system_of(text.format("").replace("[b]", "[a]"), first, second), "pay", 0, 1, 2)
        # With an integer at one of the places there are fewer values, but still enough.
        system = system_of(text.format("").replace("[b]", "[1]"), first, second)
        self.fewest(system, "pay", 0, 1, 2)
        other = second.replace("t[a]", "t[1]")
        self.fewest(system_of(text.format("").replace("[b]", "[1]"), first, other), "pay", 0, 1, 2)
        other = other.replace("unlike a b", "unlike b 1")
        self.fewest(system_of(text.format("").replace("[b]", "[1]"), first, other), "pay", 0, 1, None)

    def test_other_parameters_have_values_too(self):
        text = "kind pay a b c d\n  unlike a b\n  unlike b c\n  unlike a c\n  unlike c d\n  unlike d 1\n  unlike d 2\n"
        text += "  put m[d] 1\n  check x\nend"
        system = system_of(text, "kind look a b\n  unlike a b\n  unlike b 1\n  unlike b 3\n  read m[a] x\nend")
        values, calls = self.fewest(system, "pay", 0, 0, 1)
        self.assertEqual((len(values), len(calls[0][1])), (4, 2))


class TestAlone(WayTestCase):
    def test_other_calls_are_not_alone(self):
        self.fewest(system_of(ALONE, BOTH.replace("c d", "c d\n  alone")), "pay", 0, 1, None)
        self.fewest(system_of(ALONE, BOTH), "pay", 0, 1, 1)
        system = system_of(ALONE, BOTH.replace("c d", "c d\n  alone"), LOOK)
        self.fewest(system, "pay", 0, 1, None)
        self.fewest(system, "both", 0, 1, None)
        self.fewest(system, "look", 0, 0, 1)

    def test_calls_that_are_alone_in_ways_of_others(self):
        system = system_of(PAY, BOTH.replace("c d", "c d\n  alone"))
        found = self.fewest(system, "pay", 0, 1, 1)
        self.assertEqual(found[1][0][0], "both")
        self.fewest(system, "both", 0, 1, 1)
        wrong = way(system_of(ALONE, BOTH), "pay", 0, 1)
        self.assertIs(is_way(system, "pay", 0, 1, wrong), True)
        system = system_of(ALONE, BOTH.replace("c d", "c d\n  alone"))
        self.assertIs(is_way(system, "pay", 0, 1, wrong), False)

    def test_ways_longer_than_three(self):
        calls = self.fewest(system_of(LONG.format(flag="  alone\n")), "pay", 0, 1, 4)[1]
        self.assertEqual([call[0] for call in calls], ["look", "both", "move", "lose"])
        calls = self.fewest(system_of(LONG.format(flag="")), "pay", 0, 1, 3)[1]
        self.assertEqual([call[0] for call in calls], ["look", "pay", "lose"])
        # Each kind but the last one leads to the next only with the same value.
        same = LONG.format(flag="  alone\n").replace("u[b]", "u[a]").replace("v[b]", "v[a]").replace("w[b]", "w[a]")
        found = self.fewest(system_of(same), "pay", 0, 1, 4)
        self.assertEqual(len({call[1][0] for call in found[1]}), 1)
        broken = same.replace("kind both a b", "kind both a b\n  unlike a 7").replace("p[a] 1", "p[7] 1")
        self.fewest(system_of(broken), "pay", 0, 1, None)

    def test_a_kind_twice(self):
        text = "kind pay\n  alone\n  put m[1] 1\n  put m[3] 1\nend"
        put = "    put s[a] a\n"
        step = f"kind look a\n  choose\n    read m[1] x\n{put}  or\n    read m[3] x\n{put}  end\nend"
        found = self.fewest(system_of(text, step), "pay", 0, 1, 2)
        self.assertEqual([call[0] for call in found[1]], ["look", "look"])


class TestIsWay(WayTestCase):
    SYSTEM = system_of(PAY, LOOK)
    WAY = ((1, 2), (("look", (1,), 0, 0), ("pay", (1, 2), 0, 1), ("look", (2,), 0, 0)))

    def told(self, expected, value, system=SYSTEM, name="pay", first=0, last=1):
        with self.subTest(shown(value)):
            self.assertIs(is_way(system, name, first, last, value), expected)

    def test_any_values(self):
        for one, other in ((1, 2), (2, 1), (0, -1), (10**3999, 7), (10**100, -(10**100))):
            calls = (("look", (one,), 0, 0), ("pay", (one, other), 0, 1), ("look", (other,), 0, 0))
            self.told(True, ((one, other), calls))
            self.told(False, ((other, one), calls))
            self.told(False, ((one, other), calls), first=1, last=0)
            back = (calls[2], ("pay", (one, other), 1, 0), calls[0])
            self.told(True, ((one, other), back), first=1, last=0)
            self.told(False, ((one, other), back))

    def test_one_part_changed(self):
        (one, other), (first, middle, last) = self.WAY
        self.told(True, self.WAY)
        for values in ((1, 1), (1, 3), (3, 2), (2, 1), (1,), (1, 2, 3), (), [1, 2], (True, 2), (1, 2.0), 1, None, "12"):
            self.told(False, (values, (first, middle, last)))
        for values in ((1, 1), (1, 3), (3, 2), (1,), (1, 2, 3), [1, 2], (True, 2), (1, None), Broken(), None):
            self.told(False, ((one, other), (first, ("pay", values, 0, 1), last)))
        for values in ((2,), (True,), (1.0,), [1], (), (1, 1), None, 1, Broken(), ([1],)):
            self.told(False, ((one, other), (("look", values, 0, 0), middle, last)))
        for entered, left in ((1, 1), (1, 0), (0, 0), (0, 2), (2, 1), (-2, -1), (False, 1), (0, True), (0, None)):
            self.told(False, ((one, other), (first, ("pay", (1, 2), entered, left), last)))
        for strange in STRANGE:
            self.told(False, ((one, other), (first, ("pay", (1, 2), strange, 1), last)))
            self.told(False, ((one, other), (first, ("pay", (1, 2), 0, strange), last)))
            self.told(False, ((one, other), (first, ("pay", strange, 0, 1), last)))
            self.told(False, ((one, other), (first, (strange, (1, 2), 0, 1), last)))
            self.told(False, ((one, other), (first, strange, last)))
            self.told(False, ((one, other), strange))
            self.told(False, (strange, (first, middle, last)))
        for name in ("look", "both", "pays", *NO_NAMES[:12], 0, ("pay",), ["pay"]):
            self.told(False, ((one, other), (first, (name, (1, 2), 0, 1), last)))
        for call in (list(middle), middle[:3], (*middle, None), (), (middle,), "pay", {0: middle}):
            self.told(False, ((one, other), (first, call, last)))
        for calls in ((first, middle), (middle, last), (first, last), (last, middle, first), first):
            self.told(False, ((one, other), calls))
        self.told(False, ((one, other), [first, middle, last]))

    def test_other_objects(self):
        values, calls = self.WAY
        others = ((), (values,), (values, calls, ()), [values, calls], (calls, values), values, calls, {values: calls})
        for value in (*others, self.SYSTEM, 0, "", "way", (None, None), *STRANGE):
            self.told(False, value)
        self.assertIs(is_way(self.SYSTEM, "pay", 0, 1, value=((1, 2), iter(calls))), False)

    def test_how_many_calls(self):
        values, (first, middle, last) = self.WAY
        back = ("pay", (1, 2), 1, 1)
        self.told(False, (values, ()))
        for many in (3, 5, 37, 39):
            self.told(True, (values, (first, middle, *((last, back) * 19)[: many - 3], last)))
        longer = (first, ("pay", (1, 2), 0, 0), first, middle, *(last, back) * 18, last)
        self.assertEqual(len(longer), 41)
        self.told(False, (values, longer))
        self.told(True, (values, longer[2:]))
        # One way has forty calls: two different kinds can follow each other.
        system = system_of(PAY, LOOK, "kind both a\n  raise money[a] 1\nend")
        forty = (("both", (1,), 0, 0), *[("look", (1,), 0, 0), ("both", (1,), 0, 0)] * 18)
        forty = (*forty, ("look", (1,), 0, 0), middle, last)
        self.assertEqual(len(forty), 40)
        self.told(True, (values, forty), system)
        self.told(False, (values, (("look", (1,), 0, 0), *forty)), system)

    def test_the_same_call_again_and_again(self):
        system = system_of("kind pay a b\n  read m[a] x\n  put m[b] x\nend")
        for many in range(1, 43):
            calls = (("pay", (1, 1), 0, 1),) * many
            self.told(many <= 40, ((1, 1), calls), system, first=1, last=0)

    def test_at_both_tuples_of_a_choose(self):
        text = "kind pay a\n  choose\n    put m[a] 1\n  or\n    put s[a] 1\n  end\nend"
        system = system_of(text, "kind both c d\n  read m[c] x\n  read s[d] y\nend")
        call = (("both", (1, 1), 0, 1),)
        self.told(False, ((1,), call), system, first=0, last=1)
        self.told(True, ((1,), (("both", (1, 1), 0, 0),)), system, first=0, last=0)
        self.told(False, ((1, 1), (("pay", (1,), 0, 1),)), system, "both", 0, 1)

    def test_alone(self):
        alone = BOTH.replace("c d", "c d\n  alone")
        value = ((1, 2), (("both", (1, 2), 0, 1),))
        for texts in ((PAY, BOTH), (PAY, alone), (ALONE, BOTH)):
            self.told(True, value, system_of(*texts))
        self.told(False, value, system_of(ALONE, alone))
        again = "kind pay\n  {}put m[0] 1\n  read m[0] x\nend"
        value = ((), (("pay", (), 1, 0),))
        self.told(True, value, system_of(again.format("")), first=0, last=1)
        self.told(False, value, system_of(again.format("alone\n  ")), first=0, last=1)


class TestSearch(WayTestCase):
    def test_small_systems(self):
        found = {}
        for seed in range(300):
            system = SmallMaker(random.Random(seed)).system()
            for name in system.names:
                few = naive.fewest(system, name, values_for(system))
                self.compare(system, name, few)
                for many in few.values():
                    found[system[name].alone, many] = found.get((system[name].alone, many), 0) + 1
        self.assertTrue({(False, 1), (False, 2), (False, 3), (True, 1), (True, 2)} <= set(found), found)

    def compare(self, system, name, few):
        kind = system[name]
        with self.subTest(format_system(system), name=name):
            self.assertEqual(loops(system, name), sorted(pair for pair in few if pair[0] <= pair[1]))
            steps = {(kind.spots[one][0], kind.spots[other][0]) for one, other in few}
            self.assertEqual(bad_pairs(system, name), sorted(pair for pair in steps if pair[0] < pair[1]))
            for first in range(len(kind.deeds)):
                for last in range(len(kind.deeds)):
                    found = way(system, name, first, last)
                    self.assertEqual(found is None, (first, last) not in few)
                    if found is not None:
                        self.assertEqual(len(found[1]), few[first, last])
                        self.assertIs(is_way(system, name, first, last, found), True)
                        self.check_parts(found)

    def test_systems_with_more_parameters(self):
        for seed in range(3):
            system = SmallMaker(random.Random(seed), 3, 3, 4).system()
            for name in system.names:
                self.compare(system, name, naive.fewest(system, name, values_for(system, 4)))

    def test_chains_of_kinds_that_are_alone(self):
        for flag in ("", "  alone\n"):
            system = system_of(LONG.format(flag=flag))
            self.compare(system, "pay", naive.fewest(system, "pay", range(20, 22)))


class TestLargest(WayTestCase):
    def test_in_a_short_time(self):
        begun = time.monotonic()
        for alone in ((), NAMES[:1], NAMES[:4], NAMES):
            system = largest_system(alone)
            self.assertEqual((len(system), len(system.constants)), (5, 12))
            for kind in system.kinds:
                self.assertEqual((len(kind), len(kind.deeds), len(kind.parameters)), (8, 12, 4))
                pairs = bad_pairs(system, kind.name)
                self.assertEqual(len(pairs), 0 if alone == NAMES else 28)
                self.assertEqual(len(loops(system, kind.name)), 0 if alone == NAMES else 74)
            self.fewest(system, "pay", 0, 11, None if alone == NAMES else 1)
        self.assertLess(time.monotonic() - begun, 20)


class TestErrors(WayTestCase):
    SYSTEM = system_of(PAY, LOOK)

    def all_raise(self, error, value, system, name, first=0, last=1):
        self.raises(error, value, way, system, name, first, last)
        for more in (None, TestIsWay.WAY, Broken()):
            self.raises(error, value, is_way, system, name, first, last, more)

    def test_no_systems(self):
        look = {"kinds": self.SYSTEM.kinds, "names": self.SYSTEM.names, "constants": ()}
        others = (*STRANGE, 0, "pay", PAY, self.SYSTEM.kinds, System, Posing(System, **look))
        for system in (*others, types.SimpleNamespace(**look)):
            for name, first in (("pay", 0), ("none", 9), (None, None), (Broken(), Broken())):
                self.all_raise(InvalidSystem, system, system, name, first)
                self.raises(InvalidSystem, system, bad_pairs, system, name)
                self.raises(InvalidSystem, system, loops, system, name)

    def test_unknown_kinds(self):
        for name in (*STRANGE, *NO_NAMES, "both", "pays", 0, ("pay",), ["pay"], self.SYSTEM["pay"]):
            for first, last in ((0, 1), (9, 9), (None, True), (Broken(), [])):
                self.all_raise(UnknownKind, name, self.SYSTEM, name, first, last)
            self.raises(UnknownKind, name, bad_pairs, self.SYSTEM, name)
            self.raises(UnknownKind, name, loops, self.SYSTEM, name)

    def test_no_indices(self):
        for number in (*STRANGE, 2, 3, -1, -2, 10**100, "0", (0,), [0]):
            for other in (0, 1, 7, None, Broken()):
                self.all_raise(InvalidNumber, number, self.SYSTEM, "pay", number, other)
            self.all_raise(InvalidNumber, number, self.SYSTEM, "pay", 1, number)
        self.all_raise(InvalidNumber, 1, self.SYSTEM, "look", 0, 1)


if __name__ == "__main__":
    unittest.main()
