"""Point 4: the errors, their base classes, arguments and attributes."""

import copy
import unittest

from finestcuts import errors
from objects import LONG, STRANGE, Broken, Same

BASES = ("CutError", "ValueError", "LookupError", "RuntimeError", "OverflowError")

# The name of each error, its argument, and the base class by which it is one of BASES.
ERRORS = (
    ("InvalidItem", "value", "CutError"),
    ("InvalidKind", "part", "CutError"),
    ("InvalidKinds", "value", "CutError"),
    ("InvalidSystem", "value", "CutError"),
    ("InvalidStore", "value", "CutError"),
    ("InvalidCall", "value", "CutError"),
    ("InvalidCutting", "value", "CutError"),
    ("InvalidCuts", "value", "CutError"),
    ("InvalidRow", "value", "CutError"),
    ("InvalidRun", "value", "CutError"),
    ("InvalidOrder", "value", "CutError"),
    ("InvalidCosts", "value", "CutError"),
    ("InvalidNumber", "value", "CutError"),
    ("InvalidText", "value", "CutError"),
    ("InvalidLine", None, "CutError"),
    ("ParseError", "line", "CutError"),
    ("NoPiece", "number", "LookupError"),
    ("NotInOrder", None, "LookupError"),
    ("UnknownKind", "value", "LookupError"),
    ("UnknownCall", "value", "LookupError"),
    ("NotOpen", "number", "LookupError"),
    ("NoSystem", None, "LookupError"),
    ("NoEngine", None, "LookupError"),
    ("StillOpen", "number", "RuntimeError"),
    ("TooMany", "limit", "OverflowError"),
)

VALUES = (0, 5, -1, *LONG, "", "pay", (), (1, "a"), [1, [2]], {"a": []}, ValueError("no"), *STRANGE)


def base_named(name):
    found = {base.__name__: base for base in (ValueError, LookupError, RuntimeError, OverflowError)}
    return found.get(name, errors.CutError)


class TestErrors(unittest.TestCase):
    def test_there_are_no_others(self):
        defined = [name for name, value in vars(errors).items() if isinstance(value, type)]
        self.assertEqual(sorted(defined), sorted(["CutError", *(row[0] for row in ERRORS)]))

    def test_base_classes(self):
        self.assertEqual(errors.CutError.__bases__, (ValueError,))
        for name, _, base in ERRORS:
            with self.subTest(name):
                of = {"CutError", "ValueError"} if base == "CutError" else {base}
                error = getattr(errors, name)
                self.assertEqual({word for word in BASES if issubclass(error, base_named(word))}, of)
                self.assertEqual(error.__bases__, (base_named(base),))

    def test_the_error_of_all_wrong_values(self):
        with self.assertRaises(ValueError) as caught:
            raise errors.CutError()
        self.assertIs(type(caught.exception), errors.CutError)

    def test_arguments_are_kept(self):
        for name, argument, _ in ERRORS:
            error = getattr(errors, name)
            for value in VALUES if argument else ():
                with self.subTest(name, value=type(value)):
                    for made in (error(value), error(**{argument: value})):
                        self.assertIs(getattr(made, argument), value)
                        self.assertEqual(list(vars(made)), [argument])

    def test_no_arguments(self):
        for name, argument, _ in ERRORS:
            if argument is None:
                self.assertEqual(vars(getattr(errors, name)()), {})

    def test_raised_and_caught_by_name_and_by_base(self):
        for name, argument, base in ERRORS:
            error = getattr(errors, name)
            for value in (None, "pay", [1], Broken(), Same()):
                made = error(value) if argument else error()
                for wanted in (error, base_named(base), Exception):
                    with self.subTest(name, wanted=wanted):
                        with self.assertRaises(wanted) as caught:
                            raise made
                        self.assertIs(caught.exception, made)
                        self.assertIs(type(caught.exception), error)

    def test_copies_have_the_same_attributes(self):
        for name, argument, _ in ERRORS:
            if argument:
                with self.subTest(name):
                    made = copy.copy(getattr(errors, name)("pay"))
                    self.assertEqual(vars(made), {argument: "pay"})

    def test_not_equal_to_other_objects(self):
        made = [getattr(errors, row[0])(*([7] if row[1] else [])) for row in ERRORS]
        for error in made:
            self.assertEqual([other for other in made if error == other], [error])
            self.assertFalse(error == 7 or error == "7" or error == ValueError(7))

    def test_cannot_be_iterated_over(self):
        for name, argument, _ in ERRORS:
            error = getattr(errors, name)
            self.assertRaises(TypeError, iter, error([1, 2]) if argument else error())


if __name__ == "__main__":
    unittest.main()
