"""Points 2, 12 and 13: cuttings, their pieces, and what is done with two of them."""

import itertools
import types
import unittest

from finestcuts.cuttings import Cutting
from finestcuts.errors import InvalidCuts, InvalidCutting, InvalidSystem, UnknownKind
from finestcuts.systems import System
from finestcuts.texts import parse_system
from objects import NAMES, NO_NAMES, STRANGE, Broken, Posing, Same, shown

TEXT = """kind pay a
  put m[a] 1
  put m[a] 2
  put m[a] 3
  put m[a] 4
end
kind look
  check x
end
kind both
  check x
  check y
end"""
SYSTEM = parse_system(TEXT)
ALL = (("both", 1), ("pay", 1), ("pay", 2), ("pay", 3))
SUBSETS = [subset for size in range(5) for subset in itertools.combinations(ALL, size)]

NO_CUTS = (
    *STRANGE,
    0,
    "",
    "pay",
    (),
    ("pay",),
    ("pay", 1, 1),
    ["pay", 1],
    (1, "pay"),
    (("pay", 1),),
    {"pay": 1},
    *[("pay", position) for position in (*STRANGE, 0, 4, 5, -1, -3, 10**100, "1", (1,), [1])],
    *[("look", position) for position in (0, 1, 2, -1, True)],
    *[("both", position) for position in (0, 2, -1, True)],
    *[(name, 1) for name in (*STRANGE, *NO_NAMES, *NAMES[3:], "pays", "pa", 0, ("pay",), ["pay"])],
)


def cutting(*cuts, system=SYSTEM):
    return Cutting(system, cuts)


class CuttingTestCase(unittest.TestCase):
    def invalid(self, error, value, function, *arguments):
        with self.subTest(shown(value)):
            with self.assertRaises(error) as caught:
                function(*arguments)
            self.assertIs(type(caught.exception), error)
            self.assertIs(caught.exception.value, value)

    def has(self, made, *cuts):
        """The cutting has exactly these cuts, which are ascending."""
        self.assertIs(type(made), Cutting)
        self.assertEqual(made.cuts, cuts)
        self.assertIs(type(made.cuts), tuple)
        self.assertEqual([type(position) for _, position in made.cuts], [int] * len(cuts))
        self.assertTrue(made.system == SYSTEM)


class TestCuts(CuttingTestCase):
    def test_none_and_all(self):
        self.has(cutting())
        self.has(Cutting(SYSTEM, []))
        self.has(cutting(*ALL), *ALL)

    def test_any_order(self):
        for subset in SUBSETS:
            for cuts in itertools.permutations(subset):
                self.has(Cutting(SYSTEM, cuts), *subset)
                self.has(Cutting(SYSTEM, list(cuts)), *subset)

    def test_the_system(self):
        self.assertIs(cutting().system, SYSTEM)
        self.assertIs(cutting(*ALL).system, SYSTEM)

    def test_arguments_by_name(self):
        self.has(Cutting(cuts=(("pay", 2),), system=SYSTEM), ("pay", 2))
        self.has(Cutting.whole(system=SYSTEM))
        self.has(Cutting.single(system=SYSTEM), *ALL)

    def test_what_is_no_list_or_tuple(self):
        others = [value for value in STRANGE if type(value) is not list]
        for cuts in (*others, 0, "pay", {("pay", 1): 1}, {("pay", 1)}, iter([("pay", 1)]), cutting(("pay", 1)), SYSTEM):
            self.invalid(InvalidCuts, cuts, Cutting, SYSTEM, cuts)
        self.invalid(InvalidCuts, NO_CUTS, Cutting, SYSTEM, NO_CUTS)
        for cuts in (("pay", 1), ["pay", 1], ["pay"], [["pay", 1]]):
            self.invalid(InvalidCuts, cuts, Cutting, SYSTEM, cuts)

    def test_what_is_no_cut(self):
        for value in NO_CUTS:
            for cuts in ([value], (value,), [value, ("pay", 1)], (("pay", 1), value), (*ALL, value)):
                self.invalid(InvalidCuts, cuts, Cutting, SYSTEM, cuts)

    def test_a_cut_twice(self):
        for cut in ALL:
            for cuts in ([cut, cut], (cut, cut), [*ALL, cut], (cut, *ALL)):
                self.invalid(InvalidCuts, cuts, Cutting, SYSTEM, cuts)
        cuts = (("pay", 1), ("".join(["p", "ay"]), 1))
        self.invalid(InvalidCuts, cuts, Cutting, SYSTEM, cuts)

    def test_the_system_ahead_of_the_cuts(self):
        look = {"kinds": SYSTEM.kinds, "names": SYSTEM.names, "constants": ()}
        others = (*STRANGE, 0, "pay", TEXT, SYSTEM.kinds, cutting(), System, types.SimpleNamespace(**look))
        for system in (*others, Posing(System, **look), SYSTEM["pay"]):
            for cuts in ((), [], (("pay", 1),), None, 5, [("pay", 0)], Broken()):
                self.invalid(InvalidSystem, system, Cutting, system, cuts)
            self.invalid(InvalidSystem, system, Cutting.whole, system)
            self.invalid(InvalidSystem, system, Cutting.single, system)

    def test_the_list_is_changed_later(self):
        cuts = [("pay", 3), ("pay", 1)]
        made = Cutting(SYSTEM, cuts)
        self.assertEqual(cuts, [("pay", 3), ("pay", 1)])
        cuts.append(("pay", 2))
        cuts[0] = None
        self.has(made, ("pay", 1), ("pay", 3))
        self.assertEqual(len(made), 2)


class TestWholeAndSingle(CuttingTestCase):
    def test_both(self):
        self.has(Cutting.whole(SYSTEM))
        self.has(Cutting.single(SYSTEM), *ALL)
        self.assertIs(Cutting.single(SYSTEM).system, SYSTEM)

    def test_kinds_of_one_step(self):
        system = SYSTEM - "pay" - "both"
        self.assertEqual(Cutting.single(system).cuts, ())
        self.assertEqual(Cutting.single(system).pieces("look"), ((0, 1),))
        self.assertTrue(Cutting.single(system) == Cutting.whole(system))

    def test_the_longest_kinds(self):
        names = sorted(["z", "pay", "a", "look", "b"])
        system = parse_system("\n".join(f"kind {name}\n" + "  check x\n" * 8 + "end" for name in names[::-1]))
        found = Cutting.single(system)
        self.assertEqual(found.cuts, tuple((name, position) for name in names for position in range(1, 8)))
        self.assertEqual(found.pieces("z"), tuple((at, at + 1) for at in range(8)))

    def test_called_off_a_cutting(self):
        self.has(cutting(("pay", 1)).single(SYSTEM), *ALL)
        self.has(cutting(("pay", 1)).whole(SYSTEM))


class TestPieces(CuttingTestCase):
    def pieces(self, name, expected, *cuts):
        for made in (cutting(*cuts), Cutting(SYSTEM, list(cuts[::-1]))):
            with self.subTest(name, cuts=cuts):
                found = made.pieces(name)
                self.assertEqual(found, expected)
                self.assertTrue(type(found) is tuple and all(type(piece) is tuple for piece in found))

    def test_each_kind(self):
        self.pieces("pay", ((0, 4),))
        self.pieces("pay", ((0, 1), (1, 4)), ("pay", 1))
        self.pieces("pay", ((0, 2), (2, 4)), ("pay", 2), ("both", 1))
        self.pieces("pay", ((0, 3), (3, 4)), ("pay", 3))
        self.pieces("pay", ((0, 1), (1, 3), (3, 4)), ("pay", 1), ("pay", 3))
        self.pieces("pay", ((0, 1), (1, 2), (2, 3), (3, 4)), *ALL)
        self.pieces("both", ((0, 1), (1, 2)), *ALL)
        self.pieces("both", ((0, 2),), *ALL[1:])
        for cuts in SUBSETS:
            self.pieces("look", ((0, 1),), *cuts)

    def test_they_are_the_steps_once(self):
        for cuts in SUBSETS:
            for kind in SYSTEM.kinds:
                found = cutting(*cuts).pieces(kind.name)
                steps = [step for first, behind in found for step in range(first, behind)]
                self.assertEqual(steps, list(range(len(kind))))
                self.assertEqual([(kind.name, first) for first, _ in found[1:]], [c for c in cuts if c[0] == kind.name])

    def test_by_name(self):
        self.assertEqual(cutting().pieces(name="both"), ((0, 2),))

    def test_unknown(self):
        made = cutting(*ALL)
        for name in (*STRANGE, *NO_NAMES, "pays", 0, ("pay", 1), ["pay"], SYSTEM["pay"]):
            self.invalid(UnknownKind, name, made.pieces, name)


class TestTwoCuttings(CuttingTestCase):
    def test_all_pairs(self):
        systems = (SYSTEM, parse_system(TEXT), System(SYSTEM.kinds, most=0))
        for first in SUBSETS:
            for second, system in zip(SUBSETS, itertools.cycle(systems)):
                one, other = cutting(*first), cutting(*second, system=system)
                with self.subTest(first=first, second=second):
                    self.has(one | other, *[cut for cut in ALL if cut in first or cut in second])
                    self.has(one & other, *[cut for cut in ALL if cut in first and cut in second])
                    self.has(one - other, *[cut for cut in ALL if cut in first and cut not in second])
                    self.assertIs(one.is_coarser(other), set(first) <= set(second))
                    self.assertIs(one == other, first == second)
                    self.assertIs(one != other, first != second)
                    self.has(one, *first)
                    self.has(other, *second)

    def test_is_coarser_by_name(self):
        self.assertIs(cutting().is_coarser(other=cutting(*ALL)), True)
        self.assertIs(cutting(*ALL).is_coarser(cutting()), False)

    def test_in_place(self):
        one = same = cutting(("pay", 1))
        one |= cutting(("pay", 2))
        self.has(one, ("pay", 1), ("pay", 2))
        self.has(same, ("pay", 1))

    def test_the_system_of_the_result_is_the_first_one(self):
        one, other = cutting(*ALL), cutting(*ALL, system=System(SYSTEM.kinds, most=0))
        for first, second in ((one, other), (other, one)):
            for made in (first | second, first & second, first - second):
                self.assertIs(made.system, first.system)

    def test_what_is_no_cutting_of_an_equal_system(self):
        others = (
            *STRANGE,
            0,
            "pay",
            ALL,
            ALL[0],
            SYSTEM,
            Cutting,
            Posing(Cutting, system=SYSTEM, cuts=ALL),
            types.SimpleNamespace(system=SYSTEM, cuts=ALL),
            Cutting.whole(SYSTEM - "look"),
            Cutting(SYSTEM - "look", ALL),
            Cutting.whole(System(SYSTEM.kinds[::-1])),
            Cutting.whole(parse_system(TEXT.replace("4", "5"))),
        )
        for made in (cutting(), cutting(("pay", 1)), cutting(*ALL)):
            for other in others:
                self.invalid(InvalidCutting, other, lambda: made | other)
                self.invalid(InvalidCutting, other, lambda: made & other)
                self.invalid(InvalidCutting, other, lambda: made - other)
                self.invalid(InvalidCutting, other, made.is_coarser, other)


class TestElements(CuttingTestCase):
    def test_cuts_in_it(self):
        for cuts in SUBSETS:
            made = cutting(*cuts)
            for cut in ALL:
                self.assertIs(cut in made, cut in cuts)
                self.assertIs(cut not in made, cut not in cuts)

    def test_what_is_no_cut_is_not_in_it(self):
        for made in (cutting(), cutting(*ALL)):
            for value in (*NO_CUTS, SYSTEM, made, ALL):
                with self.subTest(shown(value)):
                    self.assertIs(value in made, False)
        self.assertIs(("pay", True) in cutting(("pay", 1)), False)
        self.assertIs(("pay", 1.0) in cutting(("pay", 1)), False)

    def test_how_many(self):
        for cuts in SUBSETS:
            self.assertEqual(len(cutting(*cuts)), len(cuts))
            self.assertIs(type(len(cutting(*cuts))), int)

    def test_iterating(self):
        for cuts in SUBSETS:
            made = cutting(*cuts[::-1])
            for _ in range(2):
                self.assertEqual(list(made), list(cuts))
                self.assertEqual([cut for cut in made], list(cuts))
        one, other = cutting(("pay", 2), ("both", 1))
        self.assertEqual((one, other), (("both", 1), ("pay", 2)))
        with self.assertRaises(TypeError):
            cutting(*ALL)[0]


class TestEquality(CuttingTestCase):
    def different(self, one, other):
        with self.subTest(shown(other)):
            self.assertIs(one == other, False)
            self.assertIs(one != other, True)

    def test_equal(self):
        one, other = Cutting(SYSTEM, [("pay", 2), ("both", 1)]), Cutting(parse_system(TEXT), (("both", 1), ("pay", 2)))
        self.assertIs(one == other, True)
        self.assertIs(one != other, False)
        self.assertIs(one == one, True)
        self.assertIs(one == Cutting(System(SYSTEM.kinds, most=3), one.cuts), True)

    def test_other_systems(self):
        for system in (System(SYSTEM.kinds[::-1]), parse_system(TEXT.replace("4", "5")), SYSTEM - "look"):
            for cuts in ((), (("pay", 1),), ALL):
                self.different(cutting(*cuts), Cutting(system, cuts))

    def test_objects_of_other_classes(self):
        for made in (cutting(), cutting(*ALL)):
            look = {"system": made.system, "cuts": made.cuts}
            others = (*STRANGE, 0, made.cuts, list(made.cuts), SYSTEM, Cutting, types.SimpleNamespace(**look))
            for other in (*others, Posing(Cutting, **look), Same()):
                self.different(made, other)
        self.assertIs(cutting() in [None, (), SYSTEM], False)


if __name__ == "__main__":
    unittest.main()
