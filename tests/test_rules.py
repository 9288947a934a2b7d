import unittest

from quotehome.errors import InvalidStep
from quotehome.rules import Same
from quotehome.steps import Drop, Stem, Step, Stop, Swap
from tests.helper import Case, any_values

EIGHT = ["a = b", "b = c", "c = d", "d = e", "e = f", "f = g", "g = h", "h = i"]


class SameTest(Case):
    def test_numbers_of_rules(self):
        self.same(Same.MOST, 8)
        self.same(Same("a = b").MOST, 8)
        self.same(Same("a = b").rules, ((("a",), ("b",)),))
        self.same(Same(*EIGHT).rules, tuple(((rule[0],), (rule[4],)) for rule in EIGHT))
        self.fails(InvalidStep, ["rules", None], Same)
        self.fails(InvalidStep, ["rules", None], Same, keep=False)
        self.fails(InvalidStep, ["rules", None], Same, *EIGHT, "i = j")

    def test_rules_stay_in_order_and_as_written(self):
        self.same(Same("b = a", "a = b", "b = a").rules, ((("b",), ("a",)), (("a",), ("b",)), (("b",), ("a",))))
        self.same(Same("a = a").rules, ((("a",), ("a",)),))
        self.same(
            Same("dns = domain name system", "a b c d = e").rules,
            ((("dns",), ("domain", "name", "system")), (("a", "b", "c", "d"), ("e",))))

    def test_numbers_of_sides_and_words(self):
        self.same(Same("d = c = b = a").rules, ((("d",), ("c",), ("b",), ("a",)),))
        self.same(
            Same("a b c d = e f g h = i j k l = m n o p").rules,
            ((tuple("abcd"), tuple("efgh"), tuple("ijkl"), tuple("mnop")),))
        for rule in ["a", "a b", "a = b = c = d = e", "a b c d e = f", "f = a b c d e", "a = b = a b c d e"]:
            self.fails(InvalidStep, ["rule", 0], Same, rule)

    def test_wrong_signs_spaces_and_words(self):
        for rule in [
            "", "=", " = ", "a =", "= a", "a = ", " = a", "a= b", "a =b", "a=b", "a  = b", "a =  b", " a = b",
            "a = b ", "a = = b", "a = b =", "a = b = ", "a b  c = d", "a == b", "a - b", "a = B", "a = b1", "a = *",
            "abcdefghijk = a", "a = abcdefghijk", "a\n= b", "a = b\n", "a = b\nc = d", "a : b", "a , b = c",
        ]:
            self.fails(InvalidStep, ["rule", 0], Same, rule)
            self.fails(InvalidStep, ["rule", 1], Same, "a = b", rule, "a")

    def test_values_that_are_no_rules(self):
        for value in any_values() + [(("a",), ("b",)), ["a", "b"], b"a = b"]:
            self.fails(InvalidStep, ["rule", 0], Same, value)
            self.fails(InvalidStep, ["rule", 7], Same, *EIGHT[:7], value)

    def test_keep(self):
        self.assertIs(Same("a = b").keep, True)
        self.assertIs(Same("a = b", keep=True).keep, True)
        self.assertIs(Same("a = b", keep=False).keep, False)
        for value in any_values() + [[True]]:
            if not isinstance(value, bool):
                self.fails(InvalidStep, ["keep", None], Same, "a = b", keep=value)

    def test_the_first_error_is_told(self):
        self.fails(InvalidStep, ["rules", None], Same, keep=1)
        self.fails(InvalidStep, ["rules", None], Same, *["a"] * 9, keep=1)
        self.fails(InvalidStep, ["rule", 1], Same, "a = b", None, "a", keep=1)

    def test_every_result_stays(self):
        for value in ["a", "b", "*", None, "cats"]:
            self.same(Same("a = b").result(value), value)
        self.same(Same("a = b", keep=False).result(value="b"), "b")

    def test_equality(self):
        self.equal_both_ways(Same("a = b", "c = d e"), Same("a = b", "c = d e"))
        self.equal_both_ways(Same("a = b", keep=False), Same("a = b", keep=False))
        self.equal_to_no_other(Same("a = x"), any_values() + [Step(), Stop("a"), Drop("a"), Swap(a="x"), Stem("a")])
        self.equal_to_no_other(Same("a = b", "c = d"), [
            Same("a = b", "c = d", keep=False), Same("c = d", "a = b"), Same("b = a", "c = d"), Same("a = b"),
            Same("a = b", "c = d", "c = d"), Same("a = b = c", "c = d"), "same a = b\nsame c = d"])

    def test_texts(self):
        self.same(str(Same("b a = c", "a = b = c")), "same b a = c\nsame a = b = c")
        self.same(str(Same("a = b", "b = c", keep=False)), "first a = b\nfirst b = c")
        self.same(repr(Same("a b = p q")), "Same('a b = p q')")
        self.same(repr(Same("b = a", "a = c", keep=False)), "Same('b = a', 'a = c')")

    def test_where_it_stands(self):
        self.owns(Same, ["result", "__eq__", "__str__", "__repr__"])
        self.assertEqual(Same.__module__, "quotehome.rules")
        self.assertTrue(issubclass(Same, Step))
        self.assertFalse(issubclass(Same, (Stop, Swap, Stem)))


if __name__ == "__main__":
    unittest.main()
