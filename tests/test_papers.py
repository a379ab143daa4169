"""Points 2, 27 and 28: papers, which show that a cutting is right."""

import copy
import random
import time
import types
import unittest

import slowly
from finestcuts.cuttings import Cutting
from finestcuts.errors import InvalidCutting
from finestcuts.finest import finest, is_right
from finestcuts.papers import is_right_paper, right_paper
from finestcuts.texts import format_system, parse_system
from making import NAMES, SmallMaker, largest_system
from objects import STRANGE, Broken, Posing, RaisingTestCase, Same, shown

EXAMPLE = parse_system("kind pay a\n  add m[a] 1\n  put s[0] 1\nend\nkind look c\n  read m[c] x\nend")
# Ways lead from m to t, never to s or u; all marks and both kinds of unlike pairs take part.
ALONE = parse_system(
    """kind pay a b
  unlike a b
  unlike b 5
  alone
  put m[a] 1
  put s[b] 1
  put s[7] 1
end
kind move a b
  unlike a b
  read m[a] x
  put t[b] 1
end
kind look a
  unlike a -1
  read t[a] x
  choose
    put u[a] 1
  or
    put u[5] 1
  end
end"""
)


def all_states(system):
    """All states of a system, in the order of papers."""
    states = [
        (kind.name, deed, mark)
        for kind in system.kinds
        for deed in range(len(kind.deeds))
        for mark in slowly.marks_of(system, kind, deed)
    ]
    return sorted(states, key=slowly.place_of)


class PaperTestCase(RaisingTestCase):
    def is_paper(self, cutting, value, expected):
        with self.subTest(shown(value)):
            self.assertIs(is_right_paper(cutting, value), expected)

    def paper(self, cutting):
        """The paper of a right cutting, looked at from all sides."""
        found = right_paper(cutting)
        self.assertIs(type(found), tuple)
        for entry in found:
            self.assertEqual([type(part) for part in entry[:2]] + [type(entry[3])], [str, int, tuple])
            self.assertIn(type(entry[2]), (int, str))
            for state in entry[3]:
                self.assertEqual([type(state), len(state)], [tuple, 3])
        self.assertEqual(found, slowly.least_paper(cutting))
        self.assertEqual(right_paper(cutting), found)
        self.is_paper(cutting, found, True)
        return found


class TestExample(PaperTestCase):
    def test_the_example(self):
        cutting = Cutting(EXAMPLE, [("pay", 1)])
        paper = self.paper(cutting)
        expected = [("pay", 0, 0, (("look", 0, 0), ("pay", 0, 0))), 2, True, False]
        told = [paper[0], len(paper), is_right_paper(cutting, paper), is_right_paper(cutting, paper[:1])]
        self.assertEqual(told, expected)
        self.assertEqual(paper[1], ("pay", 0, "first", (("look", 0, "first"), ("pay", 0, "first"))))

    def test_by_name(self):
        cutting = Cutting(EXAMPLE, [("pay", 1)])
        self.assertEqual(right_paper(cutting=cutting), right_paper(cutting))
        self.assertIs(is_right_paper(value=right_paper(cutting), cutting=cutting), True)


class TestRightPapers(PaperTestCase):
    def test_without_cuts(self):
        for system in (EXAMPLE, ALONE):
            cutting = Cutting.whole(system)
            self.assertEqual(self.paper(cutting), ())
            for value in ([], None, "", {}, ((),), (None,), (("pay", 0, 0, ()),), *STRANGE):
                self.is_paper(cutting, value, False)

    def test_deeds_and_marks_in_order(self):
        paper = self.paper(Cutting(ALONE, [("pay", 1), ("look", 1)]))
        heads = [entry[:3] for entry in paper]
        marks = (-1, 5, 7, "first")
        self.assertEqual(ALONE.constants, (-1, 5, 7))
        expected = [("pay", 0, mark) for mark in marks] + [("look", 0, mark) for mark in marks[1:]]
        self.assertEqual(heads, expected)
        paper = self.paper(Cutting(ALONE, [("pay", 2)]))
        expected = [("pay", 0, mark) for mark in marks] + [("pay", 1, mark) for mark in (-1, 7, "first")]
        self.assertEqual([entry[:3] for entry in paper], expected)

    def test_states_in_order(self):
        cutting = Cutting(ALONE, [("pay", 1)])
        paper = self.paper(cutting)
        looks, moves = [[(name, at, mark) for mark in (5, 7, "other")] for name, at in (("look", 0), ("move", 1))]
        self.assertEqual(paper[0][3], (*looks, ("move", 0, -1), *moves))
        self.assertEqual(paper[1][3][:5], (("look", 0, 7), ("look", 0, "other"), ("move", 0, 5), *moves[1:]))
        self.assertEqual(paper[3][3], (*looks, ("move", 0, "first"), *moves))
        for entry in paper[:3]:
            self.assertNotIn("first", [mark for _, _, mark in entry[3]])
        for entry in paper:
            names = [name for name, _, _ in entry[3]]
            self.assertEqual(names, sorted(names))
            self.assertNotIn("pay", names)

    def test_names_ascend_whatever_the_order_of_the_kinds(self):
        kinds = EXAMPLE.kinds[::-1]
        system = EXAMPLE - "pay" + kinds[1]
        self.assertEqual(system.names, ("look", "pay"))
        self.assertEqual(self.paper(Cutting(system, [("pay", 1)])), self.paper(Cutting(EXAMPLE, [("pay", 1)])))

    def test_integers_that_parameters_are_unlike(self):
        text = "kind pay a\n  unlike a 1\n  unlike a 3\n  add m[a] 1\n  put s[2] 1\nend\n"
        text += "kind look c\n  unlike c 2\n  read m[c] x\nend"
        paper = self.paper(Cutting(parse_system(text), [("pay", 1)]))
        self.assertEqual([entry[2] for entry in paper], [2, "first"])
        self.assertEqual([entry[3] for entry in paper], [(), (("look", 0, "first"), ("pay", 0, "first"))])

    def test_kinds_that_back(self):
        text = "kind pay a\n  backs\n  add m[a] 1\n  check x\n  read s[0] x\nend\nkind look c\n  read {}[c] x\nend"
        cutting = Cutting(parse_system(text.format("s")), [("pay", 1), ("pay", 2)])
        self.assertEqual(self.paper(cutting), (("pay", 0, 0, ()), ("pay", 0, "first", ())))
        cutting = Cutting(parse_system(text.format("m")), [("pay", 2)])
        paper = self.paper(cutting)
        self.assertEqual(paper[0], ("pay", 0, 0, (("look", 0, 0), ("pay", 0, 0))))
        self.assertRaises(InvalidCutting, right_paper, Cutting(cutting.system, [("pay", 1), ("pay", 2)]))

    def test_small_systems(self):
        found = 0
        for seed in range(600):
            source = random.Random(seed)
            system = SmallMaker(source, steps=4).system()
            best = finest(system)
            some = Cutting(system, [cut for cut in best if source.random() < 0.6])
            with self.subTest(format_system(system)):
                for cutting in (best, some):
                    found += sum([len(entry[3]) for entry in self.paper(cutting)])
        self.assertGreater(found, 1000)

    def test_no_right_cuttings(self):
        cuttings = (*STRANGE, 0, "pay", EXAMPLE, Cutting, (), Posing(Cutting, system=EXAMPLE, cuts=()))
        for value in (*cuttings, types.SimpleNamespace(system=EXAMPLE, cuts=())):
            self.raises(InvalidCutting, value, right_paper, value)
            for paper in ((), None, Broken()):
                self.raises(InvalidCutting, value, is_right_paper, value, paper)
        wrong = Cutting.single(parse_system("kind pay\n  put m[0] 1\n  put m[0] 2\nend"))
        self.raises(InvalidCutting, wrong, right_paper, wrong)
        self.assertIs(is_right_paper(wrong, ()), False)


class TestOtherPapers(PaperTestCase):
    def variants(self, paper):
        """The paper with one part changed, so that it is none any more."""
        for at, entry in enumerate(paper):
            name, deed, mark, states = entry
            for other in (
                entry[:3],
                (*entry, ()),
                list(entry),
                (name, deed, mark, list(states)),
                (name, deed, mark, dict.fromkeys(states)),
                (name, deed, mark, None),
                ("move" if name == "pay" else "pay", deed, mark, states),
                (name, deed + 1, mark, states),
                (name, deed == 1, mark, states) if deed < 2 else (name, deed - 1, mark, states),
                (name, deed, True, states),
                (name, deed, "other", states),
                (name, deed, (mark,), states),
                (name, deed, mark, (states,)),
                (name, deed, mark, (*states, None)),
                (name, deed, mark, (*states, *states[:1], ())),
                *[(part, deed, mark, states) for part in STRANGE],
                *[(name, part, mark, states) for part in STRANGE],
                *[(name, deed, part, states) for part in STRANGE],
            ):
                yield (*paper[:at], other, *paper[at + 1 :])
            yield (*paper[:at], *paper[at + 1 :])
            yield (*paper[:at], entry, entry, *paper[at + 1 :])
            for strange in (*STRANGE, 0, "pay", ()):
                yield (*paper[:at], strange, *paper[at + 1 :])
            for strange in (*STRANGE, 0, "pay", (None,)):
                yield (*paper[:at], (name, deed, mark, strange), *paper[at + 1 :])
        yield (*paper, paper[-1])
        yield paper[1:] + paper[:1]

    def test_parts_changed(self):
        for cutting in (Cutting(ALONE, [("pay", 1)]), Cutting(EXAMPLE, [("pay", 1)])):
            paper = self.paper(cutting)
            for value in self.variants(paper):
                self.is_paper(cutting, value, False)

    def test_other_objects(self):
        cutting = Cutting(EXAMPLE, [("pay", 1)])
        paper = right_paper(cutting)
        others = (list(paper), (paper,), dict(enumerate(paper)), iter(paper), EXAMPLE, cutting)
        for value in (*STRANGE, 0, "", (), *others):
            self.is_paper(cutting, value, False)
        nested = paper
        for _ in range(45):
            nested = (nested,)
        for value in (nested, (nested, nested), (paper[0], ("pay", 0, "first", nested)), (paper[0], (nested,) * 4)):
            self.is_paper(cutting, value, False)

    def with_states(self, paper, at, states):
        return (*paper[:at], (*paper[at][:3], tuple(states)), *paper[at + 1 :])

    def test_states_left_out_twice_and_in_another_order(self):
        cutting = Cutting(ALONE, [("pay", 1)])
        paper = self.paper(cutting)
        for at, entry in enumerate(paper):
            states = entry[3]
            for place, state in enumerate(states):
                self.is_paper(cutting, self.with_states(paper, at, states[:place] + states[place + 1 :]), False)
                self.is_paper(cutting, self.with_states(paper, at, states[:place] + (state, *states[place:])), False)
                changed = states[:place] + (list(state), *states[place + 1 :])
                self.is_paper(cutting, self.with_states(paper, at, changed), False)
                strange = (Broken(), Same(), None, [], {}, True, 0.0, (1,))
                changed_parts = [(*state[:part], other, *state[part + 1 :]) for part in range(3) for other in strange]
                for other in ((*state, 0), state[:2], (state,), *strange, *changed_parts):
                    changed = states[:place] + (other, *states[place + 1 :])
                    self.is_paper(cutting, self.with_states(paper, at, changed), False)
            self.is_paper(cutting, self.with_states(paper, at, states[::-1]), len(states) < 2)
            for place in range(len(states) - 1):
                swapped = [*states[:place], states[place + 1], states[place], *states[place + 2 :]]
                self.is_paper(cutting, self.with_states(paper, at, swapped), False)

    def test_true_in_place_of_1(self):
        text = "kind pay a\n  add m[a] 1\n  put s[1] 1\nend\nkind look c\n  read t[c] x\n  read m[c] x\nend"
        cutting = Cutting(parse_system(text), [("pay", 1)])
        paper = self.paper(cutting)
        self.assertEqual(paper[0], ("pay", 0, 1, (("look", 1, 1), ("pay", 0, 1))))
        for entry in (
            ("pay", 0, True, paper[0][3]),
            ("pay", False, 1, paper[0][3]),
            ("pay", 0, 1.0, paper[0][3]),
            ("pay", 0, 1, (("look", True, 1), ("pay", 0, 1))),
            ("pay", 0, 1, (("look", 1, True), ("pay", 0, 1))),
            ("pay", 0, 1, (("look", 1, 1), ("pay", False, 1))),
            ("pay", 0, 1, (("look", 1, 1), ("pay", 0, 1.0))),
        ):
            self.is_paper(cutting, (entry, paper[1]), False)

    def test_states_that_need_not_be_there(self):
        # What is done in the table u leads nowhere else, so that it may be there, but only whole.
        text = """kind pay a\n  add m[a] 1\n  put s[0] 1\nend
kind look c\n  read m[c] x\nend
kind both c\n  read u[c] x\nend
kind move\n  put u[0] 1\nend"""
        cutting = Cutting(parse_system(text), [("pay", 1)])
        paper = self.paper(cutting)
        (one, other), more = (paper[0][3], paper[1][3]), (("both", 0, 0), ("move", 0, 0))
        self.is_paper(cutting, self.with_states(paper, 0, (more[0], one[0], more[1], one[1])), True)
        self.is_paper(cutting, self.with_states(paper, 1, (more[0], other[0], more[1], other[1])), True)
        self.is_paper(cutting, self.with_states(paper, 0, (more[0], *one)), False)
        self.is_paper(cutting, self.with_states(paper, 0, (one[0], more[1], one[1])), False)
        # A state that leads to nothing may be there alone, but not with a mark that its deed cannot have.
        free = ("both", 0, "other")
        self.is_paper(cutting, self.with_states(paper, 0, (free, *one)), True)
        self.is_paper(cutting, self.with_states(paper, 1, (("both", 0, "first"), free, *other)), True)
        self.is_paper(cutting, self.with_states(paper, 1, (free, ("both", 0, "first"), *other)), False)
        for mark in ("first", "last", 1, 0.0, None):
            self.is_paper(cutting, self.with_states(paper, 0, (("both", 0, mark), *one)), False)
        self.is_paper(cutting, self.with_states(paper, 0, (one[0], ("move", 0, "other"), one[1])), False)
        for state in (("none", 0, 0), ("both", 1, 0), ("both", -1, 0), ("a", 0, 0)):
            self.is_paper(cutting, self.with_states(paper, 0, (state, *one)), False)

    def test_all_states(self):
        states = all_states(ALONE)
        cutting = Cutting(ALONE, [("pay", 1)])
        paper = self.paper(cutting)
        able = [state for state in states if state[0] != "pay"]
        for at, entry in enumerate(paper):
            named = [state for state in able if entry[2] == "first" or state[2] != "first"]
            self.is_paper(cutting, self.with_states(paper, at, named), True)
            self.is_paper(cutting, self.with_states(paper, at, able), entry[2] == "first")
            # Calls of kinds that are alone do not stand between.
            self.is_paper(cutting, self.with_states(paper, at, states), False)
            for state in [state for state in states if state[0] == "pay"]:
                self.is_paper(cutting, self.with_states(paper, at, [*named, state]), False)

    def test_larger_sets_that_reach_too_much(self):
        text = "kind pay a\n  alone\n  add m[a] 1\n  put s[a] 1\nend\n"
        text += "kind look c\n  read m[c] x\nend\nkind both c\n  read s[c] x\nend"
        cutting = Cutting(parse_system(text), [("pay", 1)])
        paper = self.paper(cutting)
        self.assertEqual(paper, (("pay", 0, "first", (("look", 0, "first"),)),))
        self.is_paper(cutting, (("pay", 0, "first", (("look", 0, "first"), ("look", 0, "other"))),), True)
        self.is_paper(cutting, (("pay", 0, "first", (("both", 0, "other"), ("look", 0, "first"))),), True)
        self.is_paper(cutting, (("pay", 0, "first", (("both", 0, "first"), ("look", 0, "first"))),), False)

    def test_larger_sets_of_small_systems(self):
        tried = {True: 0, False: 0}
        for seed in range(150):
            source = random.Random(seed)
            system = SmallMaker(source, steps=4).system()
            cutting = finest(system)
            paper = right_paper(cutting)
            for at, (name, deed, mark, states) in enumerate(paper):
                kind = system[name]
                start = source.choice([(other.name, 0, other) for other in system.kinds])
                if start[2].alone and kind.alone or not start[2].deeds:
                    continue
                extra = (start[0], 0, source.choice(slowly.marks_of(system, start[2], 0)))
                closure = {extra}
                while True:
                    unused = None if mark == "first" else "first"
                    lefts = [left for state in closure for left in slowly.lefts_of(system, state, unused)]
                    more = {new for act, to in lefts for new in slowly.states_from(system, act, to, kind.alone)}
                    if more <= closure:
                        break
                    closure |= more
                value = self.with_states(paper, at, sorted({*states, *closure}, key=slowly.place_of))
                named = mark == "first" or extra[2] != "first"
                expected = named and self.reaches_nothing(cutting, kind, deed, mark, lefts)
                self.is_paper(cutting, value, expected)
                tried[expected] += 1
        self.assertGreater(min(tried.values()), 30)

    def reaches_nothing(self, cutting, kind, deed, mark, lefts):
        """Whether none of the deeds with marks reaches what it must not, from a deed with a mark."""
        ends = [position for name, position in cutting.cuts if name == kind.name]
        step = kind.spots[deed][0]
        for last, act in enumerate(kind.deeds):
            place = kind.spots[last][0]
            barred = any(step < position <= place for position in ends)
            if kind.backs and act[0] == "add":
                late = [position for position in ends if any(check >= position for check in kind.checks)]
                barred = barred or any(step < position and place < position for position in late)
            for other, to in lefts if barred else ():
                if slowly.naive.do_clash_by_kind(other, act) and to in slowly.marks_of(cutting.system, kind, last):
                    if slowly.can_have_both(kind, deed, mark, last, to):
                        return False
        return True

    def test_what_is_handed_in_stays(self):
        cutting = Cutting(ALONE, [("pay", 1)])
        paper = right_paper(cutting)
        for value in (paper, [list(paper[0]), {"a": [1]}], (("pay", 0, 5, [("look", 0, 5)]),) * 5):
            kept = copy.deepcopy(value)
            is_right_paper(cutting, value)
            self.assertEqual(value, kept)


class TestWrongCuttings(PaperTestCase):
    def test_never_accepted(self):
        wrong = 0
        for seed in range(150):
            system = SmallMaker(random.Random(seed), steps=4).system()
            single = Cutting.single(system)
            if is_right(single):
                continue
            wrong += 1
            least = slowly.least_paper(single)
            everything = all_states(system)
            for states in ((), everything, [state for state in everything if state[2] != "first"]):
                self.is_paper(single, tuple((*entry[:3], tuple(states)) for entry in least), False)
            for value in (least, (), right_paper(finest(system))):
                self.is_paper(single, value, False)
        self.assertGreater(wrong, 60)

    def test_deeds_that_stay_behind(self):
        cutting = Cutting(parse_system("kind pay\n  put m[0] 1\n  check x\nend"), [("pay", 1)])
        self.is_paper(cutting, (("pay", 0, 0, ()),), False)
        cutting = Cutting(parse_system("kind pay\n  read m[0] x\n  check x\nend"), [("pay", 1)])
        self.is_paper(cutting, (("pay", 0, 0, ()),), True)


class TestLargest(PaperTestCase):
    def test_in_a_short_time(self):
        begun = time.monotonic()
        system = largest_system(NAMES)
        paper = right_paper(Cutting.single(system))
        self.assertIs(is_right_paper(Cutting.single(system), paper), True)
        self.assertGreater(len(paper), 500)
        # A kind that is alone beside four others, whose deeds lead everywhere but to its last steps.
        steps = "".join([f"  add m[{'abcd'[at & 3]}] {at}\n" for at in range(7)])
        alone = parse_system(f"kind pay a b c d\n  alone\n{steps}  put seen[a] 1\nend")["pay"]
        system = largest_system() - "pay" + alone
        cutting = Cutting(system, [("pay", 7)])
        self.assertEqual(finest(system), cutting)
        paper = right_paper(cutting)
        self.assertEqual(len(paper), 7 * 13)
        self.assertGreater(min([len(entry[3]) for entry in paper]), 500)
        self.assertIs(is_right_paper(cutting, paper), True)
        self.assertLess(time.monotonic() - begun, 20)


if __name__ == "__main__":
    unittest.main()
