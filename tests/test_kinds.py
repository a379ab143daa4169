"""Points 2, 6 and 7: kinds, their properties, their limits and their first wrong part."""

import copy
import types
import unittest

from finestcuts.errors import InvalidKind
from finestcuts.kinds import Kind
from objects import LARGE, LONG, NAMES, NO_NAMES, SHORT, STRANGE, Posing, Same, constant, shown

READ = ("read", ("m", "a"), "x")
ADD = ("add", ("m", "b"), ("sum", -5, ((2, "a"), (-1, "x"))))
PUT = ("put", ("s", 0), constant(1))
RAISE = ("raise", ("s", -3), ("sum", 0, ((1, "b"),)))
LOWER = ("lower", ("s", "b"), ("sum", 0, ((1, "w"), (1, "y"))))
READ_Y = ("read", ("t", 7), "y")
READ_W = ("read", ("t", "b"), "w")
STEPS = (
    READ,
    ("check", "enough"),
    ("choose", (ADD, READ_Y), (READ_W, PUT, READ)),
    ("check", "m"),
    LOWER,
    ("choose", (), (RAISE,)),
)
PARTS = ("name", "parameters", "steps", "unlike", "backs", "alone")
RIGHT = {
    "name": "pay",
    "parameters": ("a", "b"),
    "steps": STEPS,
    "unlike": (("a", "b"), ("b", -7), ("a", 0)),
    "backs": True,
    "alone": False,
}


def kind(**changes):
    return Kind(**{**RIGHT, **changes})


def puts(many, first=0):
    return tuple(("put", ("s", first + at), constant(1)) for at in range(many))


def using(*names):
    """A deed whose sum has these names."""
    return ("add", ("m", 0), ("sum", 0, tuple((1, name) for name in sorted(names))))


def reading(name):
    return ("read", ("m", 0), name)


class KindTestCase(unittest.TestCase):
    def refused(self, part, **changes):
        with self.subTest(part, **{name: shown(value) for name, value in changes.items()}):
            with self.assertRaises(InvalidKind) as caught:
                kind(**changes)
            self.assertEqual(caught.exception.part, part)

    def steps_refused(self, *steps, parameters=("a", "b")):
        self.refused("steps", steps=steps, parameters=parameters, unlike=())

    def steps_taken(self, *steps, parameters=("a", "b")):
        with self.subTest(shown(steps)):
            self.assertEqual(kind(steps=steps, parameters=parameters, unlike=()).steps, steps)


class TestProperties(KindTestCase):
    def test_the_parts(self):
        made = kind()
        for part in PARTS:
            self.assertEqual(getattr(made, part), RIGHT[part])
        self.assertIs(made.backs, True)
        self.assertIs(made.alone, False)
        made = kind(backs=False, alone=True)
        self.assertIs(made.backs, False)
        self.assertIs(made.alone, True)

    def test_what_follows_from_the_parts(self):
        made = kind()
        self.assertEqual(made.deeds, (READ, ADD, READ_Y, READ_W, PUT, READ, LOWER, RAISE))
        spots = ((0, None), (2, 0), (2, 0), (2, 1), (2, 1), (2, 1), (4, None), (5, 1))
        self.assertEqual(made.spots, spots)
        self.assertEqual(made.local_names, ("w", "x", "y"))
        self.assertEqual(made.checks, (1, 3))
        self.assertEqual(made.chooses, (2, 5))
        self.assertEqual(len(made), 6)

    def test_without_any_of_these(self):
        made = Kind("pay", (), (PUT,))
        found = (made.deeds, made.spots, made.local_names, made.checks, made.chooses, len(made))
        self.assertEqual(found, ((PUT,), ((0, None),), (), (), (), 1))

    def test_without_deeds(self):
        made = Kind("pay", (), (("check", "enough"), ("choose", (), ())))
        found = (made.deeds, made.spots, made.local_names, made.checks, made.chooses, len(made))
        self.assertEqual(found, ((), (), (), (0,), (1,), 2))

    def test_locals_are_ascending_and_different(self):
        steps = tuple(reading(name) for name in ("z", "b", "ab", "a", "b", "z"))
        self.assertEqual(Kind("pay", ("c",), steps).local_names, ("a", "ab", "b", "z"))

    def test_many_checks_and_chooses(self):
        made = Kind("pay", (), (("check", "a"), ("choose", (), ())) * 4)
        self.assertEqual((made.checks, made.chooses), ((0, 2, 4, 6), (1, 3, 5, 7)))

    def test_defaults(self):
        made = Kind("pay", ("a", "b"), STEPS)
        self.assertEqual((made.unlike, made.backs, made.alone), ((), False, False))
        self.assertIs(made.backs, False)
        self.assertIs(made.alone, False)

    def test_arguments_by_position(self):
        made = Kind("pay", ("a", "b"), STEPS, (("a", "b"), ("b", -7), ("a", 0)), True, False, 3)
        self.assertTrue(made == kind(most=3))

    def test_it_cannot_be_iterated_over(self):
        self.assertRaises(TypeError, iter, kind())
        with self.assertRaises(TypeError):
            READ in kind()
        with self.assertRaises(TypeError):
            kind()[0]


class TestParts(KindTestCase):
    def test_names(self):
        for name in NAMES:
            self.assertEqual(kind(name=name).name, name)
        for name in (*NO_NAMES, *STRANGE, 0, ("pay",)):
            self.refused("name", name=name)

    def test_names_may_be_the_same_elsewhere(self):
        steps = (("read", ("pay", "pay"), "x"), ("check", "x"), ("check", "pay"), ("put", ("x", 0), constant(1)))
        self.assertEqual(kind(parameters=("pay",), steps=steps, unlike=()).local_names, ("x",))

    def test_parameters(self):
        for parameters in ((), ("a",), ("b", "a"), ("d", "c", "b", "a"), ("abcdefgh", "abcdefg")):
            self.assertEqual(kind(parameters=parameters, steps=(PUT,), unlike=()).parameters, parameters)
        wrong = (("a", "b", "c", "d", "e"), ("a", "a"), ("a", "b", "a"), ["a", "b"], "a", "ab", 0)
        for parameters in (*wrong, *STRANGE):
            self.refused("parameters", parameters=parameters, steps=(PUT,), unlike=())
        for name in (*NO_NAMES, *STRANGE, 0, ("a",)):
            self.refused("parameters", parameters=(name,), steps=(PUT,), unlike=())
            self.refused("parameters", parameters=("a", name), steps=(PUT,), unlike=())

    def test_number_of_steps(self):
        self.steps_taken(PUT)
        self.steps_taken(*puts(8))
        self.steps_taken(*(PUT,) * 8)
        self.steps_refused()
        self.steps_refused(*puts(9))
        self.steps_refused(*[("check", "x")] * 9)

    def test_what_are_no_steps(self):
        for steps in (*STRANGE, 0, "a", [PUT], PUT, ("check", "x")):
            self.refused("steps", steps=steps)
        for step in (*STRANGE, 0, "check", (), [*PUT], (PUT,), ("put", ("s", 0), 1), ("end",)):
            self.steps_refused(step)
            self.steps_refused(PUT, step)
            self.steps_refused(step, PUT)

    def test_checks(self):
        for name in NAMES:
            self.steps_taken(("check", name))
        for word in (*NO_NAMES, *STRANGE, 0, ("a",)):
            self.steps_refused(("check", word))
        for step in (("check",), ("check", "x", "y"), ["check", "x"], ("Check", "x"), ("x", "check")):
            self.steps_refused(step)

    def test_chooses(self):
        for first in ((), (PUT,), (READ, PUT, PUT)):
            for second in ((), (ADD[:2] + (constant(1),),), puts(3)):
                self.steps_taken(("choose", first, second))
        for side in (*STRANGE, 0, PUT, [PUT], puts(4), (("check", "x"),), (("choose", (), ()),), ((),), (PUT, 0)):
            self.steps_refused(("choose", side, ()))
            self.steps_refused(("choose", (PUT,), side))
        for step in (("choose",), ("choose", ()), ("choose", (), (), ()), ["choose", (), ()], ("chooses", (), ())):
            self.steps_refused(step)

    def test_number_of_deeds(self):
        self.steps_taken(("choose", puts(3), puts(3)), ("choose", puts(3), puts(3)))
        self.steps_taken(("choose", puts(3), puts(2)), *puts(7))
        self.steps_taken(("choose", puts(3), puts(3)), ("choose", puts(3), puts(3)), *[("check", "x")] * 6)
        self.steps_refused(("choose", puts(3), puts(3)), ("choose", puts(3), puts(3)), PUT)
        self.steps_refused(("choose", puts(3), puts(3)), ("choose", puts(3), puts(3)), ("choose", (), puts(1)))
        self.steps_refused(("choose", puts(3), puts(3)), *puts(7))

    def test_backs_and_alone(self):
        for part in ("backs", "alone"):
            for value in (0, 1, "", "True", (), *(value for value in STRANGE if type(value) is not bool)):
                self.refused(part, **{part: value})


class TestUnlike(KindTestCase):
    def taken(self, *unlike, **more):
        with self.subTest(shown(unlike)):
            self.assertEqual(kind(unlike=unlike, **more).unlike, unlike)

    def test_pairs(self):
        self.taken()
        self.taken(("a", "b"))
        self.taken(("b", 3), ("a", "b"), ("a", 3), ("a", -3))
        for integer in SHORT:
            self.taken(("a", integer), ("b", integer))

    def test_parameters_in_their_order(self):
        parameters = ("d", "b", "c", "a")
        for at, one in enumerate(parameters):
            for behind, other in enumerate(parameters):
                more = {"parameters": parameters, "steps": (PUT,)}
                if at < behind:
                    self.taken((one, other), **more)
                else:
                    self.refused("unlike", unlike=((one, other),), **more)

    def test_what_are_no_pairs(self):
        for pair in ((5, "a"), ("a",), ("a", "b", 5), (), "ab", ["a", "b"], ("a", ("b",)), 0, *STRANGE):
            self.refused("unlike", unlike=(pair,))
            self.refused("unlike", unlike=(("a", 1), pair))
        for value in (*STRANGE, *NO_NAMES, *LONG, "c", "x", "pay", "m", ("a",)):
            self.refused("unlike", unlike=(("a", value),))
        for value in (*STRANGE, *NO_NAMES, *SHORT, "c", "x", "pay", "m", ("a",)):
            self.refused("unlike", unlike=((value, "b"),))
            self.refused("unlike", unlike=((value, 5),))

    def test_what_is_no_tuple(self):
        for unlike in (*STRANGE, 0, "", "ab", ("a", "b"), [("a", "b")]):
            self.refused("unlike", unlike=unlike)

    def test_twice_the_same(self):
        for pair in (("a", "b"), ("a", 1), ("b", LARGE)):
            self.refused("unlike", unlike=(pair, pair))
            self.refused("unlike", unlike=(pair, ("b", 7), pair))
        self.taken(("a", 1), ("b", 1), ("a", -1), ("a", 0), ("a", -2))

    def test_how_many(self):
        pairs = tuple(("a", at) for at in range(30))
        self.taken(*pairs[:6])
        self.refused("unlike", unlike=pairs[:7])
        for most in (0, 1, 5, 6, 7, 29):
            self.taken(*pairs[:most], most=most)
            self.refused("unlike", unlike=pairs[: most + 1], most=most)
        self.taken(("a", "b"), most=10**100)

    def test_fewer_than_none(self):
        self.refused("unlike", unlike=(), most=-1)


class TestNamesInSteps(KindTestCase):
    def test_indices(self):
        self.steps_taken(("read", ("m", "b"), "x"), ("put", ("m", "a"), constant(1)))
        for index in ("c", "x", "pay", "m"):
            self.steps_refused(("read", ("m", index), "x"))
            self.steps_refused(READ, ("put", ("m", index), constant(1)))
            self.steps_refused(READ, ("choose", (), (("put", ("m", index), constant(1)),)))
        self.steps_refused(("put", ("m", "a"), constant(1)), parameters=())

    def test_indices_of_many_digits(self):
        for integer in SHORT:
            self.steps_taken(("put", ("m", integer), constant(integer)), parameters=())
        for integer in LONG:
            self.steps_refused(("put", ("m", integer), constant(1)))
            self.steps_refused(("put", ("m", 1), constant(integer)))
            self.steps_refused(("put", ("m", 1), ("sum", 0, ((integer, "a"),))))

    def test_locals_are_no_parameters(self):
        self.steps_taken(reading("c"))
        self.steps_refused(reading("a"))
        self.steps_refused(reading("b"))
        self.steps_refused(("choose", (PUT, reading("b")), ()))
        self.steps_refused(("choose", (), (reading("b"),)))
        self.steps_taken(reading("a"), parameters=())

    def test_parameters_in_sums(self):
        self.steps_taken(using("a", "b"))
        self.steps_taken(("choose", (using("a"),), (using("b"),)))
        self.steps_refused(using("a", "c"))
        self.steps_refused(using("b", "x"), parameters=("b",))
        self.steps_refused(using("a"), parameters=("b",))

    def test_locals_read_ahead_and_behind(self):
        self.steps_taken(reading("x"), using("x"))
        self.steps_taken(reading("x"), using("a", "x"), reading("x"), using("x", "b"))
        self.steps_taken(reading("x"), ("choose", (using("x"),), (using("x"),)))
        self.steps_refused(using("x"), reading("x"))
        self.steps_refused(using("x"))
        self.steps_refused(reading("x"), using("x", "y"), reading("y"))
        self.steps_refused(("choose", (using("x"),), ()), reading("x"))

    def test_locals_read_in_chooses_ahead(self):
        self.steps_taken(("choose", (reading("x"),), ()), using("x"))
        self.steps_taken(("choose", (), (PUT, reading("x"))), using("x"))
        self.steps_taken(("choose", (reading("x"),), (reading("x"),)), using("x"))
        self.steps_taken(("choose", (reading("x"),), (reading("y"),)), PUT, using("x", "y"))
        self.steps_taken(("choose", (reading("x"),), ()), ("choose", (), (using("x"),)))
        self.steps_refused(using("x"), ("choose", (reading("x"),), (reading("x"),)))

    def test_locals_read_in_the_same_choose(self):
        self.steps_taken(("choose", (reading("x"), using("x")), ()))
        self.steps_taken(("choose", (), (reading("y"), reading("x"), using("x", "y"))))
        self.steps_taken(("choose", (reading("x"), using("x")), (reading("x"), using("x"))))
        self.steps_refused(("choose", (using("x"), reading("x")), ()))
        self.steps_refused(("choose", (reading("x"), using("x", "y"), reading("y")), ()))
        self.steps_refused(("choose", (reading("x"),), (using("x"),)))
        self.steps_refused(("choose", (using("x"),), (reading("x"),)))
        self.steps_refused(("choose", (reading("x"), using("x")), (using("x"),)))

    def test_other_names_are_no_locals(self):
        steps = (("check", "word"), ("read", ("table", "a"), "x"))
        for name in ("word", "table", "pay"):
            self.steps_refused(*steps, using(name))


WRONG = {
    "name": ("", "end", 0, None, "abcdefghi"),
    "parameters": (None, ["a", "b"], ("a", "a"), ("a", "b", "c", "d", "e"), ("a", "end")),
    "steps": (None, (), [PUT], puts(9), (using("x"),), (("put", ("m", "c"), constant(1)),), (reading("a"),)),
    "unlike": (None, [], (("a", "c"),), (("b", "a"),), (("a", True),), (("a", 1), ("a", 1))),
    "backs": (0, 1, None),
    "alone": (0, 1, None),
}


class TestFirstWrongPart(KindTestCase):
    def test_one_part(self):
        for part in PARTS:
            for value in WRONG[part]:
                self.refused(part, **{part: value})

    def test_two_parts(self):
        for at, first in enumerate(PARTS):
            for second in PARTS[at + 1 :]:
                for one in WRONG[first]:
                    for other in WRONG[second]:
                        self.refused(first, **{first: one, second: other})

    def test_all_parts(self):
        for at, first in enumerate(PARTS):
            self.refused(first, **{part: WRONG[part][0] for part in PARTS[at:]})

    def test_a_part_that_is_wrong_only_beside_those_ahead(self):
        right = {"parameters": ("c",), "steps": (using("c"),), "unlike": (("c", 1),)}
        self.assertEqual(kind(**right).parameters, ("c",))
        self.refused("steps", **{**right, "parameters": ("d",)})
        self.refused("unlike", **{**right, "parameters": ("d",), "steps": (PUT,)})
        self.refused("steps", **{**right, "parameters": ("d",), "unlike": 0, "backs": 0})
        self.refused("unlike", **{**right, "parameters": ("d",), "steps": (PUT,), "alone": 1})


class TestEquality(KindTestCase):
    def different(self, one, other):
        with self.subTest(shown(other)):
            self.assertIs(one == other, False)
            self.assertIs(one != other, True)

    def test_equal(self):
        one = kind()
        other = Kind(*copy.deepcopy(tuple(RIGHT.values())))
        self.assertIs(one == other, True)
        self.assertIs(one != other, False)
        self.assertIs(one == one, True)
        self.assertIs(one == kind(most=3), True)

    def test_one_part_is_different(self):
        others = {
            "name": ("pays", "pa"),
            "steps": (STEPS[:5], STEPS[1:2] + STEPS[:1] + STEPS[2:], STEPS + (PUT,)),
            "unlike": ((), RIGHT["unlike"][:2], RIGHT["unlike"][::-1], (*RIGHT["unlike"], ("a", 1))),
            "backs": (False,),
            "alone": (True,),
        }
        for part, values in others.items():
            for value in values:
                self.different(kind(), kind(**{part: value}))

    def test_the_parameters_are_different(self):
        for parameters in (("b", "a"), ("a", "b", "c")):
            self.different(kind(unlike=()), kind(unlike=(), parameters=parameters))

    def test_steps_that_differ_within(self):
        sides = (("choose", (PUT,), ()), ("choose", (), (PUT,)), PUT)
        for at, one in enumerate(sides):
            for other in sides[:at]:
                self.different(kind(steps=(one,)), kind(steps=(other,)))
        self.different(kind(steps=puts(2)), kind(steps=puts(2, 1)))
        self.different(kind(steps=(reading("x"),)), kind(steps=(reading("y"),)))

    def test_objects_of_other_classes(self):
        made = kind()
        look = {name: getattr(made, name) for name in vars(made)}
        others = (*STRANGE, 0, "pay", made.name, STEPS, tuple(RIGHT.values()), RIGHT, Kind)
        for other in (*others, types.SimpleNamespace(**look), Posing(Kind, **look), Same()):
            with self.subTest(shown(other)):
                self.assertIs(made == other, False)
                self.assertIs(made != other, True)
        self.assertIs(0 == made, False)
        self.assertIs(made in [None, "pay", STEPS], False)


class TestArguments(KindTestCase):
    def test_they_are_not_changed(self):
        wrong = {"steps": [[*PUT], ["check", "x"]], "unlike": [["a", "b"]], "parameters": ["a", "b"]}
        kept = copy.deepcopy(wrong)
        for part in wrong:
            self.refused(part, **{part: wrong[part]})
        self.assertEqual(wrong, kept)

    def test_the_same_call_twice(self):
        made = [kind() for _ in range(3)]
        self.assertTrue(made[0] == made[1] == made[2])
        self.assertEqual(vars(made[0]), vars(made[1]))

    def test_strange_objects_at_all_places(self):
        for value in STRANGE:
            self.refused("name", **{part: value for part in PARTS})


if __name__ == "__main__":
    unittest.main()
