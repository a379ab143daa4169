"""Points 2 and 5: names, integers, the forms of sums and deeds, and which deeds clash."""

import copy
import unittest

from finestcuts.deeds import do_clash, is_deed, is_sum
from finestcuts.errors import InvalidItem
from objects import LONG, NAMES, NO_NAMES, SHORT, STRANGE, constant, shown

CHANGES = ("add", "raise", "lower", "put")
WORDS = ("read", *CHANGES)


def deed(word, place=("m", "a"), constant_or_sum=1):
    if word == "read":
        return (word, place, "x")
    if type(constant_or_sum) is int:
        return (word, place, constant(constant_or_sum))
    return (word, place, constant_or_sum)


class FormTestCase(unittest.TestCase):
    def check(self, expected, values):
        for value in values:
            with self.subTest(shown(value)):
                self.assertIs(self.form(value), expected)


class TestSums(FormTestCase):
    form = staticmethod(is_sum)

    def test_sums(self):
        self.check(True, [("sum", 0, ()), ("sum", 5, ((1, "a"),)), ("sum", -5, ((-1, "a"), (2, "b"), (3, "ba")))])
        self.assertIs(is_sum(value=("sum", 0, ())), True)

    def test_many_terms(self):
        names = sorted("z" + x + y + z for x in "abcdefghij" for y in "abcdefghij" for z in "cdefghij")
        self.check(True, [("sum", 0, tuple((1, name) for name in names))])

    def test_constants(self):
        self.check(True, [("sum", value, ()) for value in SHORT])
        self.check(False, [("sum", value, ()) for value in (*LONG, *STRANGE, "", "a", "1", (1,))])

    def test_factors(self):
        self.check(True, [("sum", 0, ((value, "a"),)) for value in SHORT if value != 0])
        self.check(False, [("sum", 0, ((value, "a"),)) for value in (0, *LONG, *STRANGE, "1", (1,))])
        self.check(False, [("sum", 0, ((1, "a"), (0, "b"))), ("sum", 0, ((0, "a"), (1, "b")))])

    def test_names(self):
        self.check(True, [("sum", 0, ((1, name),)) for name in NAMES])
        self.check(False, [("sum", 0, ((1, name),)) for name in (*NO_NAMES, *STRANGE, 1, ("a",))])

    def test_order_of_terms(self):
        for names in ("ba", "aa", "acb", "abb", "aab", "bab"):
            self.check(False, [("sum", 0, tuple((1, name) for name in names))])
        self.check(False, [("sum", 0, ((1, "a"), (2, "a"))), ("sum", 0, ((1, "ab"), (1, "a")))])
        self.check(True, [("sum", 0, ((2, "a"), (1, "b"))), ("sum", 0, ((1, "a"), (1, "ab"), (1, "b")))])

    def test_terms(self):
        self.check(False, [("sum", 0, terms) for terms in (*STRANGE, 0, "", "a", [(1, "a")], (1, "a"))])
        for term in (*STRANGE, 0, "a", "ab", [1, "a"], (), (1,), ("a", 1), (1, "a", 1), (1, ("a",))):
            self.check(False, [("sum", 0, (term,)), ("sum", 0, ((1, "a"), term)), ("sum", 0, (term, (1, "z")))])

    def test_other_forms(self):
        self.check(False, STRANGE)
        self.check(False, [0, 5, "", "sum", (), ("sum",), ("sum", 0), ("sum", 0, (), ()), ["sum", 0, ()]])
        self.check(False, [(word, 0, ()) for word in (*STRANGE, "", "add", "Sum", 0, ("sum",), b"sum")])
        self.check(False, [(0, "sum", ()), ((), 0, "sum"), (("sum", 0, ()),)])


class TestDeeds(FormTestCase):
    form = staticmethod(is_deed)

    def test_each_word(self):
        self.check(True, [deed(word) for word in WORDS])
        self.check(True, [deed(word, ("m", 0), ("sum", 2, ((3, "b"),))) for word in WORDS])
        self.assertIs(is_deed(value=deed("put")), True)

    def test_other_words(self):
        words = (*STRANGE, "", "sum", "check", "choose", "Add", "adds", "write", "sub", 0, ("add",))
        self.check(False, [(word, ("m", "a"), constant(1)) for word in words])
        self.check(False, [(word, ("m", "a"), "x") for word in words])

    def test_tables(self):
        for word in WORDS:
            self.check(True, [deed(word, (name, 0)) for name in NAMES])
            self.check(False, [deed(word, (name, 0)) for name in (*NO_NAMES, *STRANGE, 0, ("m",))])

    def test_indices(self):
        for word in WORDS:
            self.check(True, [deed(word, ("m", index)) for index in (*NAMES, *SHORT)])
            self.check(False, [deed(word, ("m", index)) for index in (*NO_NAMES, *STRANGE, *LONG, (0,), ("a",))])

    def test_places(self):
        places = (*STRANGE, 0, "m", "ma", (), ("m",), ("m", "a", "a"), ["m", "a"], ("m", ["a"]), (("m", "a"),))
        for word in WORDS:
            self.check(False, [deed(word, place) for place in places])

    def test_locals(self):
        self.check(True, [("read", ("m", "a"), name) for name in (*NAMES, "a", "m")])
        locals_ = (*NO_NAMES, *STRANGE, 0, ("x",), constant(0))
        self.check(False, [("read", ("m", "a"), name) for name in locals_])

    def test_sums(self):
        wrong = (*STRANGE, 0, "x", "a", ("sum", 0), ["sum", 0, ()], ("sum", 0, []), ("sum", 0, ((0, "a"),)))
        for word in CHANGES:
            self.check(False, [(word, ("m", "a"), value) for value in wrong])
            self.check(True, [deed(word, ("m", "a"), value) for value in SHORT])
            self.check(False, [deed(word, ("m", "a"), value) for value in LONG])

    def test_sizes_and_lists(self):
        self.check(False, STRANGE)
        self.check(False, [0, "", "read", (), (("m", "a"),)])
        for word in WORDS:
            whole = deed(word)
            self.check(False, [whole[:size] for size in range(3)] + [(*whole, "x"), (*whole, constant(1))])
            self.check(False, [list(whole), whole[::-1], (whole[0], whole[2], whole[1]), (whole,)])

    def test_what_is_a_step_but_no_deed(self):
        self.check(False, [("check", "enough"), ("choose", (), ()), ("choose", (deed("add"),), ())])


class TestClashes(unittest.TestCase):
    def check(self, expected, one, other):
        with self.subTest(one=one, other=other):
            self.assertIs(do_clash(one, other), expected)
            self.assertIs(do_clash(other, one), expected)

    def test_the_example(self):
        one, other = ("add", ("m", "a"), ("sum", 1, ())), ("put", ("m", 0), ("sum", 5, ()))
        told = [is_deed(one), do_clash(one, one), do_clash(other, other), do_clash(one, other)]
        self.assertEqual(told, [True, False, False, True])
        self.assertIs(do_clash(one, ("read", ("s", "a"), "x")), False)

    def test_all_pairs_of_words(self):
        for one in WORDS:
            for other in WORDS:
                self.check(one != other, deed(one), deed(other))
                self.check(False, deed(one), deed(other, ("s", "a")))

    def test_indices_do_not_matter(self):
        for one in WORDS:
            for other in WORDS:
                self.check(one != other, deed(one, ("m", 0)), deed(other, ("m", 1)))
                self.check(one != other, deed(one, ("m", "b")), deed(other, ("m", -1)))

    def test_sums_of_others_than_puts_do_not_matter(self):
        for word in ("add", "raise", "lower"):
            self.check(False, deed(word), deed(word, ("m", "b"), ("sum", 2, ((3, "x"),))))

    def test_locals_do_not_matter(self):
        self.check(False, ("read", ("m", "a"), "x"), ("read", ("m", "a"), "y"))
        self.check(True, ("read", ("m", "a"), "x"), ("put", ("m", "a"), ("sum", 0, ((1, "x"),))))

    def test_puts(self):
        terms = ("sum", 5, ((1, "a"),))
        self.check(False, deed("put", ("m", "a"), 5), deed("put", ("m", 3), 5))
        self.check(False, deed("put", ("m", "a"), 10**99), deed("put", ("m", "a"), 10**99))
        self.check(True, deed("put", ("m", "a"), 5), deed("put", ("m", "a"), -5))
        self.check(True, deed("put", ("m", "a"), 5), deed("put", ("m", "a"), terms))
        self.check(True, deed("put", ("m", "a"), terms), deed("put", ("m", "a"), terms))
        self.check(True, deed("put", ("m", "a"), terms), deed("put", ("m", "a"), ("sum", 5, ((2, "a"),))))

    def test_puts_on_different_tables(self):
        for one in (5, ("sum", 5, ((1, "a"),))):
            for other in (5, 6, ("sum", 5, ((1, "a"),))):
                self.check(False, deed("put", ("m", "a"), one), deed("put", ("s", "a"), other))

    def test_the_first_that_is_no_deed_is_told(self):
        right, also_wrong = deed("add"), ("add", ("m", "a"), 1)
        for wrong in (*STRANGE, 0, "read", (), ("check", "x"), list(deed("read")), deed("add", ("m", "or"))):
            for one, other in ((wrong, right), (right, wrong), (wrong, also_wrong), (wrong, wrong)):
                with self.assertRaises(InvalidItem) as caught:
                    do_clash(one, other)
                self.assertIs(caught.exception.value, wrong)
        with self.assertRaises(InvalidItem) as caught:
            do_clash(also_wrong, ("check", "x"))
        self.assertIs(caught.exception.value, also_wrong)

    def test_wrong_ones_on_different_tables(self):
        with self.assertRaises(InvalidItem) as caught:
            do_clash(deed("add"), deed("add", ("s", True)))
        self.assertEqual(caught.exception.value, deed("add", ("s", True)))

    def test_arguments_by_name(self):
        self.assertIs(do_clash(one=deed("add"), other=deed("read")), True)
        with self.assertRaises(InvalidItem) as caught:
            do_clash(other=1, one=2)
        self.assertEqual(caught.exception.value, 2)

    def test_arguments_are_not_changed(self):
        wrong = ["add", ("m", "a"), ["sum", 1, [(1, "a")]]]
        kept = copy.deepcopy(wrong)
        self.assertIs(is_deed(wrong), False)
        self.assertIs(is_sum(wrong[2]), False)
        self.assertRaises(InvalidItem, do_clash, wrong, deed("add"))
        self.assertEqual(wrong, kept)


if __name__ == "__main__":
    unittest.main()
