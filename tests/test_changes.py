"""Points 2 and 35 to 37: the cuts that a new kind breaks, and designs."""

import random
import types
import unittest

import slowly
from finestcuts.changes import Design, broken
from finestcuts.cuttings import Cutting
from finestcuts.errors import InvalidCuts, InvalidCutting, InvalidKind, InvalidKinds, UnknownKind
from finestcuts.finest import finest, is_right, wrong_cuts
from finestcuts.kinds import Kind
from finestcuts.systems import System
from finestcuts.texts import format_system, parse_system
from making import NAMES, SmallMaker, values_for
from objects import NO_NAMES, STRANGE, Broken, Posing, RaisingTestCase, Same, shown

PAY = "kind pay a b\n  unlike a b\n  add m[a] -5\n  add m[b] 5\nend"
LONG = "kind long\n  put s[0] 1\n  put t[0] 1\n  put u[0] 1\n  put v[0] 1\nend"
SYSTEM = parse_system(PAY + "\n" + LONG)
ALL = (("long", 1), ("long", 2), ("long", 3), ("pay", 1))
BOTH = parse_system("kind both c d\n  read m[c] x\n  read m[d] y\nend")["both"]


def reader(name, *tables):
    """A kind that reads several items, and so breaks the cuts between the steps that change them."""
    return parse_system("\n".join([f"kind {name}", *[f"  read {table}[0] x" for table in tables], "end"])).kinds[0]


def filler(name, *indices):
    return Kind(name, (), tuple(("add", ("z", index), ("sum", 1, ())) for index in indices))


def right_by_values(cutting):
    return slowly.wrong_cuts_of(cutting, slowly.ways_of(cutting.system, values_for(cutting.system)))


class ChangeTestCase(RaisingTestCase):
    def is_refused(self, design, error, value, function, *arguments, attribute="value"):
        """A change that is refused leaves the design as it was, with all that can be taken back."""
        before = (design.cutting, self.all_back(design))
        self.raises(error, value, function, *arguments, attribute=attribute)
        self.assertEqual((design.cutting, self.all_back(design)), before)
        self.assertIs(design.cutting.system.most, before[0].system.most)

    def is_refused_with(self, design, cuts, wrong):
        before = (design.cutting, self.all_back(design))
        with self.assertRaises(InvalidCuts) as caught:
            design.cut(cuts)
        self.assertEqual(caught.exception.value, wrong)
        self.assertIs(type(caught.exception.value), list)
        self.assertEqual((design.cutting, self.all_back(design)), before)

    def all_back(self, design):
        """The cuttings to which a design can be taken back, one after the other."""
        found = []
        with design.trial():
            while design.undo():
                found.append(design.cutting)
        return found

    def is_at(self, design, system, *cuts):
        self.assertEqual(design.cutting, Cutting(system, cuts))
        self.assertIs(type(design.cutting), Cutting)
        self.assertIs(is_right(design.cutting), True)


class TestBroken(ChangeTestCase):
    def breaks(self, cutting, kind, *expected):
        for _ in range(2):
            found = broken(cutting, kind)
            self.assertEqual((found, type(found)), (list(expected), list))
            found.append(None)

    def test_by_hand(self):
        single = Cutting.single(SYSTEM)
        self.breaks(single, BOTH, ("pay", 1))
        self.breaks(single, reader("look", "s", "t"), ("long", 1))
        self.breaks(single, reader("look", "v", "t"), ("long", 2), ("long", 3))
        self.breaks(single, reader("look", "s", "v"), *[("long", at) for at in (1, 2, 3)])
        self.breaks(single, reader("look", "w"))
        self.breaks(Cutting(SYSTEM, [("long", 2)]), reader("look", "s", "v"), ("long", 2))
        self.breaks(Cutting.whole(SYSTEM), BOTH)
        self.breaks(Cutting(SYSTEM, [("long", 3), ("long", 1)]), reader("look", "s", "t"), ("long", 1))
        self.assertEqual(broken(kind=BOTH, cutting=single), [("pay", 1)])

    def test_of_a_wrong_cutting(self):
        wrong = Cutting.single(SYSTEM + BOTH)
        self.assertEqual(wrong_cuts(wrong), [("both", 1), ("pay", 1)])
        self.breaks(wrong, reader("look", "s", "t"), ("both", 1), ("long", 1), ("pay", 1))
        self.breaks(wrong, reader("look", "w"), ("both", 1), ("pay", 1))

    def test_drawn_systems(self):
        told = {True: 0, False: 0}
        for seed in range(500):
            source = random.Random(seed)
            made = SmallMaker(source, kinds=4).system()
            if len(made) < 2:
                continue
            system = System(made.kinds[:-1])
            cutting = Cutting(system, [cut for cut in Cutting.single(system) if source.random() < 0.8])
            expected = right_by_values(Cutting(made, cutting.cuts))
            with self.subTest(format_system(made)):
                self.breaks(cutting, made.kinds[-1], *expected)
                self.assertEqual(expected, wrong_cuts(Cutting(made, cutting.cuts)))
                # A new kind only makes more ways.
                self.assertLessEqual(set(wrong_cuts(cutting)), set(expected))
            told[expected != wrong_cuts(cutting)] += 1
        self.assertGreater(min(told.values()), 30, told)

    def test_fewer_ways(self):
        changed = 0
        for seed in range(150):
            source = random.Random(seed)
            system = SmallMaker(source, kinds=4).system()
            kind = source.choice(system.kinds)
            more = (*kind.unlike, *[("a", 9)] * ("a" in kind.parameters and ("a", 9) not in kind.unlike))
            others = [Kind(kind.name, kind.parameters, kind.steps, more, kind.backs, kind.alone)]
            others.append(Kind(kind.name, kind.parameters, kind.steps, kind.unlike, kind.backs, True))
            before = wrong_cuts(Cutting.single(system))
            for other in others:
                kinds = tuple(other if one.name == kind.name else one for one in system.kinds)
                after = wrong_cuts(Cutting.single(System(kinds)))
                self.assertLessEqual(set(after), set(before))
                changed += after != before
        self.assertGreater(changed, 5)

    def test_errors_ahead_of_each_other(self):
        single = Cutting.single(SYSTEM)
        look = {"system": SYSTEM, "cuts": ()}
        for value in (*STRANGE, 0, "pay", SYSTEM, Cutting, (), Posing(Cutting, **look), types.SimpleNamespace(**look)):
            for kind in (BOTH, None, SYSTEM["pay"], Broken()):
                self.raises(InvalidCutting, value, broken, value, kind)
        full = parse_system("\n".join(f"kind {name}\nend".replace("\n", "\n  add m[0] 1\n") for name in NAMES))
        many = Cutting.whole(System((filler("pay", *range(8)), filler("long", *range(8, 12)))))
        for cutting in (single, Cutting.whole(full), many):
            design = Design(cutting)
            own = Posing(Kind, **vars(BOTH))
            for kind in (*STRANGE, 0, "both", Kind, cutting.system, own, types.SimpleNamespace(**vars(BOTH))):
                for function in (lambda kind: broken(cutting, kind), design.add):
                    self.is_refused(design, InvalidKind, "name", function, kind, attribute="part")
            for kind in (cutting.system["pay"], filler("pay", 5), filler("pay", *range(100, 108))):
                for function in (lambda kind: broken(cutting, kind), design.add):
                    self.is_refused(design, InvalidKind, "name", function, kind, attribute="part")
        for cutting, kind in ((Cutting.whole(full), filler("more", 0)), (many, filler("more", 12))):
            design = Design(cutting)
            for function in (lambda kind: broken(cutting, kind), design.add, lambda kind: design.tried([kind])):
                with self.assertRaises(InvalidKinds) as caught:
                    function(kind)
                self.assertEqual(caught.exception.value, (*cutting.system.kinds, kind))
            self.is_at(design, cutting.system)
            self.assertEqual(self.all_back(design), [])
        self.assertEqual(broken(many, filler("more", 0, 11)), [])

    def test_more_constants_where_the_system_allows_them(self):
        system = System((filler("pay", *range(8)), filler("long", *range(8, 12))), 13)
        self.assertEqual(broken(Cutting.whole(system), filler("more", 12)), [])
        design = Design(Cutting.whole(system))
        self.assertEqual(design.add(filler("more", 12)), [])
        self.assertEqual(design.cutting.system.most, 13)
        self.assertRaises(InvalidKinds, design.add, filler("most", 13))
        design.drop("pay")
        self.assertEqual(design.add(filler("most", 13, 14, 15, 16, 17, 18, 19, 20)), [])


class TestDesigns(ChangeTestCase):
    def test_the_example(self):
        design = Design(finest(parse_system(PAY)))
        found = [design.tried([BOTH]), design.add(BOTH), design.cutting.cuts, design.undo(), design.cutting.cuts]
        self.assertEqual(found, [[[("pay", 1)]], [("pay", 1)], (), True, (("pay", 1),)])

    def test_by_name(self):
        design = Design(cutting=Cutting.whole(SYSTEM))
        self.assertEqual(design.tried(kinds=[BOTH]), [[]])
        self.assertEqual(design.add(kind=BOTH), [])
        self.assertIsNone(design.cut(cuts=[("long", 1)]))
        self.assertIsNone(design.join(cuts=[("long", 1)]))
        self.assertIsNone(design.drop(name="both"))
        self.assertIsNone(design.refine())
        self.is_at(design, SYSTEM, *ALL)

    def test_what_is_no_right_cutting(self):
        look = {"system": SYSTEM, "cuts": ()}
        wrong = [Cutting(SYSTEM + BOTH, [("pay", 1)]), Cutting.single(SYSTEM + BOTH)]
        wrong.extend([Cutting.single(parse_system("kind pay\n  put m[0] 1\n  check x\nend"))])
        for value in (*STRANGE, 0, SYSTEM, Cutting, Posing(Cutting, **look), types.SimpleNamespace(**look), *wrong):
            self.raises(InvalidCutting, value, Design, value)

    def test_undo_of_a_new_one(self):
        for cutting in (Cutting.whole(SYSTEM), finest(SYSTEM)):
            design = Design(cutting)
            self.assertEqual([design.undo(), design.undo()], [False, False])
            self.is_at(design, SYSTEM, *cutting.cuts)

    def test_add_and_drop(self):
        design = Design(finest(SYSTEM))
        found = design.add(BOTH)
        self.assertEqual((found, type(found)), ([("pay", 1)], list))
        found.append(None)
        self.is_at(design, SYSTEM + BOTH, *ALL[:3])
        look = reader("look", "s", "u")
        self.assertEqual(design.add(look), [("long", 1), ("long", 2)])
        self.assertEqual(design.cutting.system.names, ("pay", "long", "both", "look"))
        self.is_at(design, SYSTEM + BOTH + look, ("long", 3))
        # A kind whose presence broke others' cuts is taken out: the cuts do not come back by themselves.
        design.drop("both")
        self.is_at(design, SYSTEM + look, ("long", 3))
        design.drop("long")
        self.is_at(design, SYSTEM - "long" + look)
        design.refine()
        self.is_at(design, SYSTEM - "long" + look, ("look", 1), ("pay", 1))
        for system, cuts in (
            (SYSTEM - "long" + look, ()),
            (SYSTEM + look, (("long", 3),)),
            (SYSTEM + BOTH + look, (("long", 3),)),
            (SYSTEM + BOTH, ALL[:3]),
            (SYSTEM, ALL),
        ):
            self.assertIs(design.undo(), True)
            self.is_at(design, system, *cuts)
        self.assertIs(design.undo(), False)

    def test_drop_refused(self):
        design = Design(finest(SYSTEM))
        for name in (*STRANGE, 0, *NO_NAMES[:6], "none", "both", ("pay",), ["pay"]):
            self.is_refused(design, UnknownKind, name, design.drop, name)
        design.drop("pay")
        with self.assertRaises(InvalidKinds) as caught:
            design.drop("long")
        self.assertEqual(caught.exception.value, ())
        self.is_at(design, SYSTEM - "pay", *ALL[:3])
        self.is_refused(design, UnknownKind, "pay", design.drop, "pay")
        self.assertEqual(self.all_back(design), [finest(SYSTEM)])

    def test_cut_and_join(self):
        design = Design(Cutting.whole(SYSTEM))
        for cuts in ([("pay", 1), ("long", 2)], (("long", 1),), [], ()):
            self.assertIsNone(design.cut(cuts))
        self.is_at(design, SYSTEM, ("long", 1), ("long", 2), ("pay", 1))
        self.assertIsNone(design.join((("long", 2), ("long", 3))))
        self.is_at(design, SYSTEM, ("long", 1), ("pay", 1))
        self.assertIsNone(design.join([("pay", 1), ("long", 1)]))
        self.is_at(design, SYSTEM)
        self.assertEqual([len(cutting) for cutting in self.all_back(design)], [2, 3, 2, 0])

    def test_changes_that_change_nothing(self):
        design = Design(Cutting(SYSTEM, ALL[:2]))
        for _ in range(2):
            design.cut([ALL[1], ALL[0]])
            design.cut([])
            design.join(())
            design.join([ALL[2], ALL[3]])
        self.assertIs(design.undo(), False)
        design.refine()
        design.refine()
        design.cut(ALL)
        self.assertIs(design.undo(), True)
        self.is_at(design, SYSTEM, *ALL[:2])
        self.assertIs(design.undo(), False)

    def test_wrong_cuts_among_right_ones(self):
        system = SYSTEM + BOTH + reader("look", "s", "u")
        design = Design(Cutting(system, [("long", 3)]))
        wrong = [("long", 2), ("pay", 1), ("long", 1), ("both", 1)]
        for cuts in ([("long", 3), *wrong], tuple(wrong), [("look", 1), *wrong], wrong[::-1]):
            self.is_refused_with(design, cuts, sorted({*wrong, *cuts} - {("long", 3)}))
        self.is_refused_with(design, [("pay", 1)], [("pay", 1)])
        # Cuts that are wrong may be taken away: they are not there.
        design.join(wrong)
        self.assertIs(design.undo(), False)
        self.is_at(design, system, ("long", 3))

    def test_what_are_no_cuts(self):
        design = Design(Cutting(SYSTEM, ALL[:2]))
        wrong = [value for value in STRANGE if type(value) not in (list, tuple)]
        wrong.extend([0, "pay", {("pay", 1): 1}, {("pay", 1)}, design.cutting, iter(ALL), ["pay", 1], ("pay", 1)])
        wrong.extend([[ALL[0], ALL[0]], [ALL[3], ALL[3]], [*ALL, ALL[3]], [("pay", 0)], [("pay", 2)], [("pay", True)]])
        wrong.extend([[("both", 1)], [["pay", 1]], [("pay", 1, 1)], [("pay",)], [("pay", "1")], [(["pay"], 1)]])
        wrong.extend([[cut] for cut in (*STRANGE, 0, "pay", Same(), Broken())])
        for cuts in wrong:
            self.is_refused(design, InvalidCuts, cuts, design.cut, cuts)
            self.is_refused(design, InvalidCuts, cuts, design.join, cuts)

    def test_lists_that_change_later(self):
        design = Design(Cutting.whole(SYSTEM))
        cuts = [("pay", 1), ("long", 1)]
        design.cut(cuts)
        cuts.append(("long", 2))
        cuts[0] = None
        self.is_at(design, SYSTEM, ("long", 1), ("pay", 1))
        gone = [("long", 1)]
        design.join(gone)
        gone.append(("pay", 1))
        self.is_at(design, SYSTEM, ("pay", 1))
        found = design.add(BOTH)
        found.clear()
        self.assertEqual([len(cutting) for cutting in self.all_back(design)], [1, 2, 0])
        kinds = [reader("look", "s", "t")]
        self.assertEqual(design.tried(kinds), [[]])
        self.assertEqual(len(kinds), 1)

    def test_equality(self):
        one, other = Design(finest(SYSTEM)), Design(finest(SYSTEM))
        self.assertEqual([one == other, one != other, one.trial() == other.trial()], [True, False, True])
        one.join([ALL[0]])
        self.assertEqual([one == other, one != other], [False, True])
        other.join([ALL[0]])
        self.assertEqual([one == other, one == Design(one.cutting)], [True, False])
        self.assertIs(Design(finest(SYSTEM)) == Design(Cutting.whole(SYSTEM)), False)
        trials = [one.trial(), other.trial(), Design(one.cutting).trial()]
        self.assertEqual([trials[0] == trials[1], trials[0] == trials[2]], [True, False])
        with trials[0]:
            self.assertIs(trials[0] == trials[1], False)
        for value in (
            *STRANGE,
            0,
            Design,
            one.cutting,
            Posing(Design, **vars(one)),
            types.SimpleNamespace(**vars(one)),
        ):
            for thing in (one, one.trial()):
                self.assertIs(thing == value, False)
                self.assertIs(thing != value, True)


class TestTrials(ChangeTestCase):
    def test_changes_within(self):
        design = Design(finest(SYSTEM))
        design.join([("long", 3)])
        with design.trial() as same:
            self.assertIs(same, design)
            design.add(BOTH)
            same.drop("long")
            self.is_at(design, SYSTEM - "long" + BOTH)
        self.is_at(design, SYSTEM, *ALL[:2], ALL[3])
        self.assertEqual(self.all_back(design), [finest(SYSTEM)])

    def test_undo_within(self):
        design = Design(finest(SYSTEM))
        design.join([("long", 3)])
        design.join([("long", 2)])
        with design.trial():
            self.assertEqual([design.undo(), design.undo(), design.undo()], [True, True, False])
            design.drop("pay")
            self.assertEqual([design.undo(), design.undo()], [True, False])
        self.is_at(design, SYSTEM, ALL[0], ALL[3])
        self.assertEqual([design.undo(), design.undo(), design.undo()], [True, True, False])
        self.is_at(design, SYSTEM, *ALL)

    def test_an_error_within(self):
        design = Design(finest(SYSTEM))
        for error in (UnknownKind, KeyError, KeyboardInterrupt):
            with self.assertRaises(error):
                with design.trial():
                    design.drop("pay")
                    if error is not UnknownKind:
                        raise error
                    design.drop("pay")
            self.is_at(design, SYSTEM, *ALL)
            self.assertIs(design.undo(), False)

    def test_one_in_another(self):
        design = Design(finest(SYSTEM))
        with design.trial():
            design.join([ALL[0]])
            with design.trial() as same:
                same.join([ALL[1]])
                with same.trial():
                    design.refine()
                    design.add(BOTH)
                self.is_at(design, SYSTEM, *ALL[2:])
            self.is_at(design, SYSTEM, *ALL[1:])
            design.undo()
            with design.trial():
                pass
            self.is_at(design, SYSTEM, *ALL)
        self.is_at(design, SYSTEM, *ALL)
        self.assertIs(design.undo(), False)

    def test_the_design_as_ahead_of_the_block(self):
        design = Design(finest(SYSTEM))
        first, second = design.trial(), design.trial()
        design.join([ALL[0]])
        with first:
            design.join([ALL[1]])
        self.is_at(design, SYSTEM, *ALL[1:])
        design.join([ALL[2]])
        with second:
            design.refine()
        self.is_at(design, SYSTEM, ALL[1], ALL[3])
        self.assertEqual([len(cutting) for cutting in self.all_back(design)], [3, 4])

    def test_an_early_end(self):
        design = Design(finest(SYSTEM))

        def tries():
            with design.trial():
                design.drop("pay")
                return design.cutting.system.names

        self.assertEqual(tries(), ("long",))
        for _ in range(2):
            with design.trial():
                design.drop("long")
                break
        self.is_at(design, SYSTEM, *ALL)


class TestTried(ChangeTestCase):
    def test_several_kinds(self):
        design = Design(finest(SYSTEM))
        design.join([ALL[2]])
        kinds = [reader("look", "s", "t"), BOTH, reader("move", "s", "t", "u")]
        found = design.tried(kinds)
        self.assertEqual(found, [[("long", 1)], [("pay", 1)], [("long", 2)]])
        self.assertEqual([type(cuts) for cuts in (found, *found)], [list] * 4)
        self.is_at(design, SYSTEM, *ALL[:2], ALL[3])
        self.assertEqual(self.all_back(design), [finest(SYSTEM)])
        self.assertEqual(design.tried([]), [])
        self.assertEqual(design.tried(kinds[::-1]), [[("long", 1), ("long", 2)], [("pay", 1)], []])
        self.assertEqual([design.add(kind) for kind in kinds], found)

    def test_wrong_kinds(self):
        design = Design(finest(SYSTEM))
        look = reader("look", "s", "t")
        for kind in (look, SYSTEM["pay"], *STRANGE, 0, "both", Kind):
            self.is_refused(design, InvalidKind, "name", design.tried, [look, kind], attribute="part")
        for kind in (SYSTEM["pay"], *STRANGE):
            self.is_refused(design, InvalidKind, "name", design.tried, [kind], attribute="part")
        more = [filler(name, 0) for name in ("one", "two", "three", "four")]
        self.assertEqual(design.tried(more[:3]), [[], [], []])
        with self.assertRaises(InvalidKinds) as caught:
            design.tried([*more, look, None])
        self.assertEqual(caught.exception.value, (*SYSTEM.kinds, *more))
        wide = [filler("one", *range(8)), filler("two", *range(8, 13)), None]
        with self.assertRaises(InvalidKinds) as caught:
            design.tried(wide)
        self.assertEqual(caught.exception.value, (*SYSTEM.kinds, *wide[:2]))
        self.is_at(design, SYSTEM, *ALL)


class TestDrawn(ChangeTestCase):
    """All changes against a plain list of what there was."""

    def change(self, source, design, made):
        """Does one change, which may be refused; returns what is there then, as a plain model finds it."""
        cutting = design.cutting
        system, cuts = cutting.system, list(cutting.cuts)
        able = [cut for cut in Cutting.single(system)]
        chosen = [cut for cut in able if source.random() < 0.4]
        source.shuffle(chosen)
        word = source.choice(("add", "drop", "cut", "cut", "join", "refine"))
        if word == "add":
            kind = source.choice(made)
            if kind.name in system or len(system) == 5:
                self.assertRaises((InvalidKind, InvalidKinds), design.add, kind)
                return cutting
            wider = System((*system.kinds, kind))
            wrong = right_by_values(Cutting(wider, cuts))
            self.assertEqual(design.add(kind), wrong)
            return Cutting(wider, [cut for cut in cuts if cut not in wrong])
        if word == "drop":
            name = source.choice(system.names)
            if len(system) == 1:
                self.assertRaises(InvalidKinds, design.drop, name)
                return cutting
            design.drop(name)
            return slowly.restricted(cutting, (name,))
        if word == "refine":
            design.refine()
            wrong = right_by_values(Cutting.single(system))
            return Cutting(system, [cut for cut in able if cut not in wrong])
        if word == "join":
            design.join(chosen)
            return Cutting(system, [cut for cut in cuts if cut not in chosen])
        wrong = [cut for cut in right_by_values(Cutting.single(system)) if cut in chosen]
        if wrong:
            with self.assertRaises(InvalidCuts) as caught:
                design.cut(chosen)
            self.assertEqual(caught.exception.value, wrong)
            return cutting
        design.cut(tuple(chosen) if source.random() < 0.5 else chosen)
        return Cutting(system, sorted({*cuts, *chosen}))

    def test_changes_and_undo(self):
        undone = 0
        for seed in range(40):
            source = random.Random(seed)
            made = [SmallMaker(source, parameters=1).kind(name) for name in NAMES]
            design = Design(Cutting.whole(System((made[0],))))
            history = [design.cutting]
            for _ in range(25):
                with self.subTest(seed=seed, at=shown(history[-1].cuts)):
                    if source.random() < 0.3:
                        self.assertIs(design.undo(), len(history) > 1)
                        undone += len(history) > 1
                        history = history[:-1] or history
                    else:
                        after = self.change(source, design, made)
                        if after != history[-1]:
                            history.append(after)
                    self.assertEqual(design.cutting, history[-1])
            self.assertEqual(self.all_back(design), history[-2::-1])
        self.assertGreater(undone, 100)


if __name__ == "__main__":
    unittest.main()
