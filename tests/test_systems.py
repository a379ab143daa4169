"""Points 2 and 8: systems, their kinds, constants and limits, and how kinds are added and taken out."""

import copy
import types
import unittest

from finestcuts.errors import InvalidKinds, UnknownKind
from finestcuts.kinds import Kind
from finestcuts.systems import System
from objects import LARGE, NAMES, NO_NAMES, STRANGE, Posing, Same, constant, shown

CHECK = ("check", "x")


def kind(name, *steps, parameters=("a", "b"), **more):
    return Kind(name, parameters, steps or (CHECK,), **more)


def puts(first, many):
    """Deeds on items whose indices follow each other, as steps of at most three deeds."""
    deeds = [("put", ("m", first + at), constant(1)) for at in range(many)]
    return tuple(("choose", tuple(deeds[at : at + 3]), ()) for at in range(0, many, 3))


def with_constants(name, *values, **more):
    """A kind with these constants: each stands in a pair of what is unlike."""
    return kind(name, unlike=tuple(("a", value) for value in values), most=len(values), **more)


PAY, LOOK, BOTH, MOVE, LOSE = FIVE = tuple(kind(name) for name in ("pay", "look", "both", "move", "lose"))
SIXTH = kind("sixth")
TWELVE = (with_constants("pay", *range(6)), with_constants("look", *range(6, 12)))


class SystemTestCase(unittest.TestCase):
    def refused(self, kinds, **more):
        with self.subTest(shown(kinds), **more):
            with self.assertRaises(InvalidKinds) as caught:
                System(kinds, **more)
            self.assertIs(caught.exception.value, kinds)

    def unknown(self, system, name, function):
        with self.subTest(shown(name)):
            with self.assertRaises(UnknownKind) as caught:
                function(system, name)
            self.assertIs(caught.exception.value, name)


class TestKinds(SystemTestCase):
    def test_one_to_five(self):
        for many in range(1, 6):
            made = System(FIVE[:many])
            self.assertEqual(made.kinds, FIVE[:many])
            self.assertEqual(made.names, ("pay", "look", "both", "move", "lose")[:many])
            self.assertEqual(len(made), many)
            self.assertIs(type(len(made)), int)
            for at in range(many):
                self.assertIs(made.kinds[at], FIVE[at])

    def test_none_and_six(self):
        self.refused(())
        self.refused((*FIVE, SIXTH))
        self.refused((*FIVE, PAY))
        self.refused((PAY,) * 5001)

    def test_any_order(self):
        made = System((LOOK, PAY, BOTH))
        self.assertEqual((made.names, made.kinds), (("look", "pay", "both"), (LOOK, PAY, BOTH)))

    def test_what_is_no_tuple(self):
        for kinds in (*STRANGE, 0, "pay", "", [PAY], [PAY, LOOK], {PAY.name: PAY}, iter((PAY,)), PAY, System((PAY,))):
            self.refused(kinds)

    def test_what_is_no_kind(self):
        posing = Posing(Kind, **vars(PAY))
        for value in (*STRANGE, 0, "pay", "", (), (PAY,), System((PAY,)), posing, types.SimpleNamespace(**vars(PAY))):
            self.refused((value,))
            self.refused((value, PAY))
            self.refused((PAY, value))
            self.refused((PAY, value, LOOK))

    def test_two_of_one_name(self):
        self.refused((PAY, PAY))
        self.refused((PAY, LOOK, kind("pay", CHECK, CHECK)))
        self.refused((LOOK, PAY, kind("pay", parameters=())))

    def test_they_cannot_be_iterated_over(self):
        made = System((PAY, LOOK))
        self.assertRaises(TypeError, iter, made)
        self.assertRaises(TypeError, list, made)
        with self.assertRaises(TypeError):
            one, other = made

    def test_arguments_by_name(self):
        made = System(most=3, kinds=(PAY, with_constants("look", 1, 2, 3)))
        self.assertEqual((made.names, made.constants), (("pay", "look"), (1, 2, 3)))


class TestConstants(SystemTestCase):
    def constants(self, expected, *kinds, **more):
        with self.subTest(expected):
            found = System(kinds, **more).constants
            self.assertEqual(found, expected)
            self.assertIs(type(found), tuple)
            self.assertEqual([type(value) for value in found], [int] * len(expected))

    def test_none(self):
        self.constants((), PAY)
        self.constants((), kind("pay", ("add", ("m", "a"), ("sum", 7, ((3, "b"),))), unlike=(("a", "b"),)))

    def test_indices_of_places(self):
        words = ("add", "raise", "lower", "put")
        steps = [(word, ("m", index), constant(9)) for word, index in zip(words, (3, -4, 0, LARGE), strict=True)]
        self.constants((-4, 0, 1, 3, LARGE), kind("pay", ("read", ("s", 1), "x"), *steps))

    def test_indices_within_chooses(self):
        steps = (
            ("choose", (("put", ("m", 5), constant(1)),), (("put", ("m", -5), constant(1)), ("read", ("m", 2), "x"))),
            ("put", ("s", 4), constant(1)),
        )
        self.constants((-5, 2, 4, 5), kind("pay", *steps))

    def test_pairs_of_what_is_unlike(self):
        self.constants((-LARGE, 0, 8), kind("pay", unlike=(("a", 8), ("b", 0), ("a", "b"), ("b", -LARGE))))

    def test_ascending_and_each_once(self):
        steps = (("put", ("m", 3), constant(1)), ("put", ("s", 3), constant(2)), ("put", ("m", 10), constant(2)))
        one = kind("pay", *steps, unlike=(("a", 3), ("b", 3), ("b", -10)))
        other = kind("look", ("put", ("t", -2), constant(1)), unlike=(("b", 10),))
        self.constants((-10, -2, 3, 10), one, other)
        self.constants((-10, -2, 3, 10), other, one)

    def test_factors_and_constants_of_sums_are_none(self):
        self.constants((), kind("pay", ("put", ("m", "a"), ("sum", 7, ((3, "a"), (-4, "b"))))))

    def test_twelve_and_thirteen(self):
        self.constants(tuple(range(12)), *TWELVE)
        self.constants(tuple(range(12)), *TWELVE, with_constants("both", 3, 11))
        self.refused((*TWELVE, with_constants("both", 12)))
        self.refused((*TWELVE, kind("both", ("put", ("m", -1), constant(1)))))
        self.constants(tuple(range(12)), kind("pay", *puts(0, 12)))
        self.refused((kind("pay", *puts(0, 12), unlike=(("b", 12),)),))

    def test_other_limits(self):
        kinds = (*TWELVE, with_constants("both", 12))
        self.constants(tuple(range(13)), *kinds, most=13)
        self.refused(kinds, most=12)
        self.refused(TWELVE, most=11)
        self.constants(tuple(range(12)), *TWELVE, most=10**100)
        for many in range(1, 7):
            self.constants(tuple(range(many)), with_constants("pay", *range(many)), most=many)
            self.refused((with_constants("pay", *range(many)),), most=many - 1)

    def test_no_constants(self):
        self.constants((), *FIVE, most=0)
        self.refused((with_constants("pay", 0),), most=0)
        self.refused((PAY, kind("look", ("read", ("m", 0), "x"))), most=0)
        self.refused((PAY,), most=-1)


class TestOneKind(SystemTestCase):
    def test_by_name(self):
        made = System(FIVE)
        for one in FIVE:
            self.assertIs(made[one.name], one)
            self.assertIs(one.name in made, True)
            self.assertIs(one.name not in made, False)
        self.assertIs(made["".join(["p", "a", "y"])], PAY)

    def test_unknown(self):
        made = System((PAY, LOOK))
        others = ("both", "pays", "pa", 0, 1, -1, ("pay",), ["pay"], {"pay": 1}, b"pay", PAY, made, (), slice(0, 1))
        for name in (*others, *STRANGE, *NO_NAMES, *NAMES):
            if name != "pay" if type(name) is str else True:
                self.unknown(made, name, lambda system, name: system[name])
                self.assertIs(name in made, False)
                self.assertIs(name not in made, True)

    def test_what_equals_a_name(self):
        made = System((PAY,))
        for name in (Same(), Posing(str)):
            self.unknown(made, name, lambda system, name: system[name])
            self.unknown(made, name, lambda system, name: system - name)
            self.assertIs(name in made, False)


class TestOneKindMore(SystemTestCase):
    def test_at_the_end(self):
        made = System((PAY,)) + LOOK + BOTH
        self.assertEqual(made.kinds, (PAY, LOOK, BOTH))
        self.assertEqual(made.names, ("pay", "look", "both"))
        self.assertIs(type(made), System)
        self.assertTrue(made == System((PAY, LOOK, BOTH)))

    def test_the_first_system_stays(self):
        one = System((PAY, with_constants("look", 1)))
        other = one + with_constants("both", 2)
        self.assertEqual((one.names, one.constants, len(one)), (("pay", "look"), (1,), 2))
        self.assertEqual((other.names, other.constants, len(other)), (("pay", "look", "both"), (1, 2), 3))

    def refused_more(self, system, value):
        kinds = system.kinds
        with self.subTest(shown(value)):
            with self.assertRaises(InvalidKinds) as caught:
                system + value
            told = caught.exception.value
            self.assertIs(type(told), tuple)
            self.assertEqual(len(told), len(kinds) + 1)
            self.assertTrue(all(one is other for one, other in zip(told, (*kinds, value), strict=True)))
            self.assertIs(system.kinds, kinds)

    def test_one_too_many(self):
        self.refused_more(System(FIVE), SIXTH)
        self.assertEqual(len(System(FIVE[:4]) + SIXTH), 5)

    def test_a_name_that_is_there(self):
        self.refused_more(System((PAY, LOOK)), PAY)
        self.refused_more(System((PAY, LOOK)), kind("look", CHECK, CHECK))

    def test_what_is_no_kind(self):
        for value in (*STRANGE, 0, "both", ("both",), (BOTH,), [BOTH], System((BOTH,)), Posing(Kind, **vars(BOTH))):
            self.refused_more(System((PAY, LOOK)), value)

    def test_as_many_constants_as_the_system(self):
        for most in (0, 1, 5):
            system = System((with_constants("pay", *range(most)),), most)
            self.assertEqual((system + LOOK).constants, tuple(range(most)))
            self.refused_more(system, with_constants("look", most))
            self.refused_more(system + LOOK, with_constants("both", -1))
        self.refused_more(System(TWELVE), with_constants("both", 12))
        self.assertEqual(len((System(TWELVE, 13) + with_constants("both", 12)).constants), 13)
        self.refused_more(System(TWELVE, 13) + with_constants("both", 12), with_constants("move", 13))

    def test_nothing_else_is_added(self):
        with self.assertRaises(TypeError):
            BOTH + System((PAY,))
        with self.assertRaises(TypeError):
            5 + System((PAY,))


class TestOneKindFewer(SystemTestCase):
    def test_each(self):
        system = System(FIVE)
        for one in FIVE:
            made = system - one.name
            self.assertIs(type(made), System)
            self.assertEqual(made.kinds, tuple(other for other in FIVE if other is not one))
        self.assertEqual((system - "look" - "pay").names, ("both", "move", "lose"))
        self.assertEqual(system.names, ("pay", "look", "both", "move", "lose"))

    def test_constants(self):
        self.assertEqual((System(TWELVE) - "pay").constants, tuple(range(6, 12)))

    def test_the_last_one(self):
        system = System((PAY,))
        with self.assertRaises(InvalidKinds) as caught:
            system - "pay"
        self.assertEqual(caught.exception.value, ())
        self.assertIs(type(caught.exception.value), tuple)
        self.assertEqual(system.names, ("pay",))

    def test_unknown(self):
        for system in (System((PAY,)), System((PAY, LOOK))):
            for name in (*STRANGE, *NO_NAMES, "both", "pays", 0, PAY, ("pay",), ["pay"], system):
                self.unknown(system, name, lambda system, name: system - name)

    def test_as_many_constants_as_the_system(self):
        system = System((with_constants("pay", 1, 2), LOOK), 2) - "pay"
        self.assertEqual((system + with_constants("pay", 3, 4)).constants, (3, 4))
        self.assertRaises(InvalidKinds, lambda: system + with_constants("pay", 3, 4, 5))
        system = System((*TWELVE, BOTH), 14) - "both"
        self.assertEqual(len((system + with_constants("both", 12, 13)).constants), 14)
        self.assertRaises(InvalidKinds, lambda: system + with_constants("both", 12, 13, 14))

    def test_what_is_added_and_taken_out(self):
        system = System((PAY, LOOK))
        self.assertTrue(system + BOTH - "both" == system)
        self.assertTrue(system - "pay" + PAY == System((LOOK, PAY)))
        self.assertFalse(system - "pay" + PAY == system)


class TestEquality(SystemTestCase):
    def different(self, one, other):
        with self.subTest(shown(other)):
            self.assertIs(one == other, False)
            self.assertIs(one != other, True)

    def test_equal(self):
        one, other = System((PAY, LOOK)), System((copy.deepcopy(PAY), kind("look")))
        self.assertIs(one == other, True)
        self.assertIs(one != other, False)
        self.assertIs(one == one, True)

    def test_another_most(self):
        self.assertIs(System((PAY,)) == System((PAY,), most=3), True)
        self.assertIs(System((PAY,), most=0) != System((PAY,)), False)
        self.assertIs(System(TWELVE) == System(TWELVE, 13), True)

    def test_other_kinds(self):
        made = System((PAY, LOOK))
        self.different(made, System((LOOK, PAY)))
        self.different(made, System((PAY,)))
        self.different(made, System((PAY, LOOK, BOTH)))
        self.different(made, System((PAY, BOTH)))
        self.different(made, System((PAY, kind("look", CHECK, CHECK))))
        self.different(made, System((PAY, kind("look", backs=True))))

    def test_objects_of_other_classes(self):
        made = System((PAY, LOOK))
        look = {name: getattr(made, name) for name in ("kinds", "names", "constants")}
        others = (*STRANGE, 0, "pay", made.kinds, made.names, [PAY, LOOK], System, PAY)
        for other in (*others, types.SimpleNamespace(**look), Posing(System, **vars(made)), Same()):
            self.different(made, other)
        self.assertIs(made in [None, "pay", made.kinds], False)
        self.different(System((PAY,)), PAY)


if __name__ == "__main__":
    unittest.main()
