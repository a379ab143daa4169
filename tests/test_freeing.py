"""Points 2, 29 and 30: which kinds and which promises free the cuts of a cutting."""

import itertools
import random
import time
import types
import unittest

import slowly
from finestcuts.cuttings import Cutting
from finestcuts.errors import InvalidCuts, InvalidCutting
from finestcuts.finest import finest, is_right
from finestcuts.freeing import promised, without
from finestcuts.kinds import Kind
from finestcuts.systems import System
from finestcuts.texts import format_system, parse_system
from making import NAMES, SmallMaker, largest_system, values_for
from objects import LARGE, LONG, NO_NAMES, STRANGE, Broken, Posing, RaisingTestCase, Same, shown

EXAMPLE = parse_system("kind pay a\n  add m[a] -5\n  add m[0] 5\nend\nkind look\n  read m[0] x\nend")
CUTTING = Cutting(EXAMPLE, [("pay", 1)])
WIDE = parse_system("kind pay a b\n  add m[a] -5\n  add m[b] 5\n  add s[a] 1\nend\nkind look c d\n  read m[c] x\nend")


def subsets(values):
    """All subsets, the smaller ones ahead, each size in list order."""
    return [chosen for size in range(len(values) + 1) for chosen in itertools.combinations(values, size)]


def is_right_by_values(cutting):
    """Whether a cutting is right, found over values."""
    domain = values_for(cutting.system)
    return not slowly.wrong_cuts_of(cutting, slowly.ways_of(cutting.system, domain))


class FreeingTestCase(RaisingTestCase):
    def frees(self, cutting, *expected):
        for _ in range(2):
            found = without(cutting)
            self.assertEqual(found, list(expected))
            self.assertEqual([type(found), *[type(names) for names in found]], [list] + [tuple] * len(found))
            found.append(None)

    def promises(self, cutting, pairs, expected):
        kept = list(pairs)
        with self.subTest(shown(pairs)):
            found = promised(cutting, pairs)
            self.assertEqual(found, expected)
            self.assertIs(type(found), type(expected))
            self.assertEqual(pairs, kept)


class TestExample(FreeingTestCase):
    def test_the_example(self):
        self.frees(CUTTING, ("look",), ("pay",))
        self.promises(CUTTING, [("pay", "a", 7), ("pay", "a", 0)], (1,))
        self.promises(CUTTING, [], None)

    def test_by_name(self):
        self.assertEqual(without(cutting=CUTTING), [("look",), ("pay",)])
        self.assertEqual(promised(pairs=[("pay", "a", 0)], cutting=CUTTING), (0,))


class TestWithout(FreeingTestCase):
    def test_right_already(self):
        self.frees(Cutting.whole(EXAMPLE), ())
        self.frees(finest(WIDE), ())
        self.frees(Cutting.single(parse_system("kind pay\n  check x\nend")), ())

    def test_kinds_with_cuts_and_all_kinds(self):
        self.frees(Cutting.single(parse_system("kind pay\n  put m[0] 1\n  put m[0] 2\nend")), ("pay",))
        text = "kind {}\n  put m[0] 1\n  put s[0] 1\nend"
        two = parse_system("\n".join(["kind pay\n  put m[0] 1\n  put m[0] 2\nend", text.format("look")]))
        self.frees(Cutting(two, [("pay", 1)]), ("pay",))
        self.frees(Cutting(two, [("pay", 1), ("look", 1)]), ("pay",))
        own = "kind {}\n  put {}[0] 1\n  put {}[0] 2\nend"
        system = parse_system("\n".join([own.format(name, name, name) for name in NAMES]))
        self.frees(Cutting.single(system), tuple(sorted(NAMES)))
        self.frees(Cutting(system, [("pay", 1), ("lose", 1)]), ("lose", "pay"))

    def test_several_least_sets(self):
        text = "kind pay\n  alone\n  put m[0] 1\n  put s[0] 1\nend"
        for name in ("move", "look", "both"):
            text += f"\nkind {name}\n  read m[0] x\n  read s[0] y\nend"
        self.frees(Cutting(parse_system(text), [("pay", 1)]), ("both", "look", "move"), ("pay",))
        text = "kind pay\n  alone\n  put m[0] 1\n  put s[0] 1\nend\nkind zoo\n  read m[0] x\n  put t[0] x\nend"
        text += "\nkind look\n  read t[0] x\n  put u[0] 1\nend\nkind both\n  read u[0] x\n  read s[0] x\nend"
        system = parse_system(text)
        self.frees(Cutting(system, [("pay", 1)]), ("both",), ("look",), ("pay",), ("zoo",))
        self.frees(Cutting(system, [("pay", 1), ("zoo", 1)]), ("pay",), ("zoo",))

    def test_a_check_frees_nothing(self):
        system = parse_system("kind pay\n  put m[0] 1\n  check x\nend\nkind look\n  read m[0] x\nend")
        self.frees(Cutting(system, [("pay", 1)]), ("pay",))

    def test_small_systems(self):
        sizes = set()
        for seed in range(150):
            system = SmallMaker(random.Random(seed), parameters=1, kinds=4).system()
            single = Cutting.single(system)
            found = []
            for names in subsets(sorted(system.names)):
                if not any(set(least) <= set(names) for least in found):
                    if len(names) == len(system) or is_right_by_values(slowly.restricted(single, names)):
                        found.append(names)
            with self.subTest(format_system(system)):
                self.frees(single, *sorted(found))
            sizes.update(len(names) for names in found)
        self.assertTrue({0, 1, 2} <= sizes, sizes)

    def test_a_system_with_few_constants(self):
        cutting = Cutting(System(EXAMPLE.kinds, most=1), CUTTING.cuts)
        self.frees(cutting, ("look",), ("pay",))
        self.promises(cutting, [("pay", "a", 7), ("pay", "a", 8), ("pay", "a", 0)], (2,))

    def test_no_cuttings(self):
        look = {"system": EXAMPLE, "cuts": ()}
        others = (*STRANGE, 0, "pay", EXAMPLE, Cutting, (), Posing(Cutting, **look), types.SimpleNamespace(**look))
        for value in others:
            self.raises(InvalidCutting, value, without, value)
            for pairs in ([], None, [None], [("none", 0)], (), Broken(), [Broken()] * 9):
                self.raises(InvalidCutting, value, promised, value, pairs)


class TestPromised(FreeingTestCase):
    def test_right_already(self):
        for pairs in ([], [("pay", "a", 0)], [("pay", "a", 0)] * 8, [("look", "c", "d")]):
            self.promises(Cutting.whole(WIDE), pairs, ())
            self.promises(finest(WIDE), pairs, ())

    def test_parameters(self):
        text = "kind pay a b\n  add m[a] -5\n  add m[b] 5\nend\nkind look c d\n  read m[c] x\n  read m[d] x\nend"
        alone = parse_system(text.replace("pay a b", "pay a b\n  alone"))
        for system in (parse_system(text), alone):
            self.promises(Cutting(system, [("pay", 1)]), [("pay", "a", "b"), ("look", "c", "d")], None)
        one = parse_system(text.replace("pay a b", "pay a b\n  alone").replace("  read m[d] x\n", ""))
        self.promises(Cutting(one, [("pay", 1)]), [("look", "c", "d"), ("pay", "a", "b")], (1,))
        self.promises(Cutting(one, [("pay", 1)]), [("look", "c", "d"), ("pay", "a", 1), ("pay", "b", 1)], None)
        mixed = parse_system(text.replace("pay a b", "pay a b\n  alone").replace("read m[d] x", "read s[d] x"))
        mixed = Cutting(mixed, [("pay", 1)])
        self.promises(mixed, [("pay", "a", "b"), ("look", "c", "d")], (0,))

    def test_integers(self):
        text = "kind pay a\n  alone\n  put m[a] 1\n  put s[a] 1\nend\nkind look\n  read m[{}] x\n  read s[{}] x\nend"
        for one, other, expected in ((1, 1, (2,)), (1, 2, ()), (LARGE, LARGE, (3,)), (-LARGE, -LARGE, None)):
            cutting = Cutting(parse_system(text.format(one, other)), [("pay", 1)])
            self.promises(cutting, [("pay", "a", 2), ("pay", "a", 3), ("pay", "a", 1), ("pay", "a", LARGE)], expected)

    def test_as_few_as_possible_and_the_first(self):
        text = "kind pay a b\n  alone\n  put m[a] 1\n  put s[a] 1\nend\n"
        # The other kind can see to it that the same value is not at both ends.
        system = parse_system(text + "kind look c d\n  read m[c] x\n  read s[d] x\nend")
        cutting = Cutting(system, [("pay", 1)])
        self.promises(cutting, [("look", "c", "d")], (0,))
        self.promises(cutting, [("pay", "a", "b"), ("look", "c", "d"), ("look", "c", "d")], (1,))
        # One pair of parameters does what three integers do.
        looks = "kind look c\n  choose\n    read m[1] x\n    read m[2] x\n  or\n    read m[3] x\n  end\n"
        looks += "  read s[c] x\nend"
        system = parse_system("kind pay a\n  alone\n  put m[a] 1\n  put s[a] 1\nend\n" + looks)
        cutting = Cutting(system, [("pay", 1)])
        integers = [("pay", "a", 3), ("pay", "a", 1), ("pay", "a", 2)]
        self.promises(cutting, integers, (0, 1, 2))
        self.promises(cutting, [("pay", "a", 4), *integers, ("pay", "a", 5)], (1, 2, 3))
        self.promises(cutting, [*integers[:2], *integers], (0, 1, 4))
        self.promises(cutting, integers[:2] * 4, None)
        for row in itertools.permutations([*integers, ("look", "c", 1), ("look", "c", 2), ("look", "c", 3)]):
            found = promised(cutting, list(row))
            self.assertEqual(len(found), 3)
            right = [
                chosen
                for chosen in itertools.combinations(range(6), 3)
                if {row[index][2] for index in chosen} == {1, 2, 3}
            ]
            self.assertEqual(found, right[0])

    def test_there_already_and_twice(self):
        text = "kind pay a\n  unlike a 7\n  add m[a] -5\n  add m[0] 5\nend\nkind look\n  read m[0] x\nend"
        cutting = Cutting(parse_system(text), [("pay", 1)])
        self.promises(cutting, [("pay", "a", 7)] * 8, None)
        self.promises(cutting, [("pay", "a", 7), ("pay", "a", 0), ("pay", "a", 0)], (1,))
        self.promises(Cutting.whole(cutting.system), [("pay", "a", 7)], ())

    def test_more_pairs_and_constants_than_kinds_and_systems_may_have(self):
        unlike = "".join([f"  unlike a {value}\n" for value in range(1, 7)])
        text = f"kind pay a\n{unlike}  add m[a] -5\n  add m[0] 5\nend\nkind look\n"
        text += "".join([f"  read m[{value}] x\n" for value in (0, 7, 8, 9, 10, 11)]) + "end"
        cutting = Cutting(parse_system(text), [("pay", 1)])
        self.assertEqual((len(cutting.system.constants), len(cutting.system["pay"].unlike)), (12, 6))
        pairs = [("pay", "a", value) for value in (0, 7, 8, 9, 10, 11, 100, 101)]
        self.promises(cutting, pairs, (0, 1, 2, 3, 4, 5))
        self.promises(cutting, pairs[::-1], (2, 3, 4, 5, 6, 7))
        self.promises(cutting, pairs[1:], None)
        self.assertEqual(len(cutting.system["pay"].unlike), 6)
        self.assertIs(is_right(cutting), False)

    def test_chosen_against_all_subsets(self):
        sizes = {}
        for seed in range(400):
            source = random.Random(seed)
            system = SmallMaker(source, kinds=2, steps=4).system()
            single = Cutting.single(system)
            able = []
            for kind in system.kinds:
                for at, one in enumerate(kind.parameters):
                    able.extend((kind.name, one, other) for other in (*kind.parameters[at + 1 :], 0, 1, 5))
            if is_right(single) or len(able) < 3:
                continue
            cutting = Cutting(system, [source.choice([cut for cut in single if cut not in finest(system)])])
            pairs = source.sample(able, min(6, len(able)))
            right = [
                chosen
                for chosen in subsets(range(len(pairs)))
                if is_right(slowly.promised(cutting, [pairs[index] for index in chosen]))
            ]
            with self.subTest(format_system(system)):
                self.promises(cutting, pairs, right[0] if right else None)
            if right:
                with_pairs = slowly.promised(cutting, [pairs[index] for index in right[0]])
                self.assertIs(is_right_by_values(with_pairs), True)
            size = len(right[0]) if right else None
            sizes[size] = sizes.get(size, 0) + 1
        self.assertTrue({None, 1, 2} <= set(sizes), sizes)

    def test_how_many_pairs(self):
        pair = ("pay", "a", 0)
        self.promises(CUTTING, [("pay", "a", 1)] * 7 + [pair], (7,))
        for many in (9, 10, 100):
            pairs = [pair] * many
            self.raises(InvalidCuts, pairs, promised, CUTTING, pairs)
            pairs = [None] * many
            self.raises(InvalidCuts, pairs, promised, CUTTING, pairs)

    def test_no_lists(self):
        pair = ("pay", "a", 0)
        others = [value for value in STRANGE if type(value) is not list]
        for pairs in (*others, 0, "", (), (pair,), {pair: 1}, {pair}, iter([pair]), pair, EXAMPLE):
            self.raises(InvalidCuts, pairs, promised, CUTTING, pairs)

    def test_wrong_elements(self):
        right = ("pay", "a", 0)
        wrong = (
            *STRANGE,
            0,
            "pay",
            (),
            ("pay",),
            ("pay", "a"),
            ("pay", "a", 0, 0),
            ["pay", "a", 0],
            (("pay", "a", 0),),
            *[(name, "a", 0) for name in (*STRANGE, *NO_NAMES[:9], "both", "a", 0, ("pay",), ["pay"])],
            *[("pay", name, 0) for name in (*STRANGE, *NO_NAMES[:9], "c", "m", "pay", 0, ("a",), ["a"])],
            *[("pay", "a", other) for other in (*STRANGE, *NO_NAMES[:9], "a", "c", "m", *LONG, ("b",), ["b"])],
            ("pay", "b", "a"),
            ("pay", "b", "b"),
            ("look", "a", 0),
            ("look", "c", "b"),
            ("look", "d", "c"),
            ("look", "d", True),
        )
        cutting = Cutting(WIDE, [("pay", 1)])
        for one, other in zip(wrong, wrong[1:] + wrong[:1]):
            for pairs in ([one], [one, other], [right, one, other], [right] * 7 + [one], [one, right]):
                self.raises(InvalidCuts, one, promised, cutting, pairs)
        for other in (0, -1, LARGE, -LARGE, "b"):
            self.assertIn(promised(cutting, [("pay", "a", other)]), ((), (0,), None))
        self.assertIn(promised(cutting, [("look", "c", "d"), ("look", "d", 0), ("pay", "b", 0)]), ((), None))

    def test_errors_change_nothing(self):
        pairs = [("pay", "a", 0), ["pay", "a", 0], Same()]
        self.assertRaises(InvalidCuts, promised, CUTTING, pairs)
        self.assertEqual([pairs[0], pairs[1], len(pairs)], [("pay", "a", 0), ["pay", "a", 0], 3])


class TestLargest(FreeingTestCase):
    def test_in_a_short_time(self):
        begun = time.monotonic()
        for alone in ((), NAMES[:2], NAMES[:4], NAMES):
            single = Cutting.single(largest_system(alone))
            expected = {0: [tuple(sorted(NAMES))], 2: None, 4: [("lose",)], 5: [()]}[len(alone)]
            found = without(single)
            if expected is not None:
                self.assertEqual(found, expected)
            pairs = [(name, "a", 100 + at) for at, name in enumerate(NAMES)]
            pairs.extend([("pay", "a", "b"), ("pay", "a", "c"), ("pay", "b", "d")])
            self.promises(single, pairs, () if alone == NAMES else None)
        self.assertLess(time.monotonic() - begun, 30)

    def test_all_subsets_in_a_short_time(self):
        begun = time.monotonic()
        pay = parse_system("kind pay a b c d\n  alone\n  put m[a] 1\n  put s[a] 1\nend")["pay"]
        reads = "".join([f"  read m[{at}] x\n  read s[{at}] x\n" for at in range(4)])
        look = parse_system(f"kind look a b c d\n{reads}end")["look"]
        deeds = tuple(("add", ("t", "abcd"[at & 3]), ("sum", at, ())) for at in range(12))
        more = [
            Kind(name, tuple("abcd"), (*deeds[:7], ("choose", deeds[7:10], deeds[10:])), (("a", 4 + at),))
            for at, name in enumerate(("both", "move", "lose"))
        ]
        system = System((pay, look, *more))
        self.assertEqual((len(system), [len(kind.deeds) for kind in system.kinds]), (5, [2, 8, 12, 12, 12]))
        cutting = Cutting(system, [("pay", 1)])
        pairs = [("pay", "a", value) for value in (0, 1, 2, 3)]
        self.promises(cutting, pairs + [("pay", "b", value) for value in (0, 1, 2, 3)], (0, 1, 2, 3))
        self.promises(cutting, [("pay", "b", value) for value in (0, 1, 2, 3)] + pairs, (4, 5, 6, 7))
        self.promises(cutting, pairs[:3] * 2, None)
        self.promises(cutting, pairs * 2, (0, 1, 2, 3))
        self.assertLess(time.monotonic() - begun, 30)


if __name__ == "__main__":
    unittest.main()
