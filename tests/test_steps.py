import unittest

from quotehome.errors import InvalidStep
from quotehome.rules import Same
from quotehome.steps import Drop, Stem, Step, Stop, Swap
from tests.helper import Case, any_values

TWENTY = [chr(97 + k) for k in range(20)]
METHODS = ["result", "__eq__", "__str__", "__repr__"]


def other_steps():
    return [
        Step(), Stop("a"), Drop("a"), Swap(a="b"), Stem("a"), Same("a = b"),
    ]


def foreign_step():
    """An object of another class that is called Step, too."""
    return type("Step", (), {})()


class StepTest(Case):
    def test_results(self):
        for value in ["a", "cats", "*", None]:
            self.same(Step().result(value), value)
        self.same(Step().result(value="a"), "a")

    def test_equality(self):
        self.equal_both_ways(Step(), Step())
        self.equal_to_no_other(Step(), [value for value in any_values() if type(value) is not Step])
        self.equal_to_no_other(Step(), other_steps()[1:])
        self.equal_to_no_other(Step(), [foreign_step()])
        self.assertIs(Step().__eq__(Stop("a")), False)
        self.same(repr(Step()), "Step()")

    def test_methods_stand_in_each_class(self):
        for step in [Step, Stop, Drop, Swap, Stem]:
            self.owns(step, METHODS)
            self.assertEqual(step.__module__, "quotehome.steps")
            self.assertTrue(issubclass(step, Step))
        self.assertIsInstance(vars(Swap)["of"], classmethod)
        self.assertTrue(issubclass(Drop, Stop))
        self.assertFalse(issubclass(Swap, Stop) or issubclass(Stem, Stop))


class StopAndDropTest(Case):
    def test_numbers_of_words(self):
        for made in [Stop, Drop]:
            self.same(made.MOST, 20)
            self.same(made("a").MOST, 20)
            self.same(made("a").words, ("a",))
            self.same(made(*TWENTY).words, tuple(TWENTY))
            self.fails(InvalidStep, ["words", None], made)
            self.fails(InvalidStep, ["words", None], made, *TWENTY, "u")

    def test_words_twice_and_in_order(self):
        for made in [Stop, Drop]:
            self.same(made("the", "on", "the").words, ("on", "the"))
            self.same(made(*["a"] * 20).words, ("a",))
            self.fails(InvalidStep, ["words", None], made, *["a"] * 21)

    def test_a_wrong_value_at_each_place(self):
        for made in [Stop, Drop]:
            for place in range(20):
                self.fails(InvalidStep, ["word", place], made, *TWENTY[:place], None, *TWENTY[place + 1:])
            for value in any_values():
                self.fails(InvalidStep, ["word", 0], made, value)
                self.fails(InvalidStep, ["word", 1], made, "a", value, "A")

    def test_the_number_is_told_ahead_of_a_wrong_word(self):
        for made in [Stop, Drop]:
            self.fails(InvalidStep, ["words", None], made, None, *TWENTY)
            self.fails(InvalidStep, ["word", 2], made, "a", "b", ["c"], 4)

    def test_results(self):
        for value in ["a", "one", "*", None, "ont"]:
            self.same(Stop("on", "the").result(value), value)
            self.same(Drop("on", "the").result(value), value)
        for word in ["on", "the"]:
            self.same(Stop("on", "the").result(word), "*")
            self.same(Drop("on", "the").result(value=word), None)

    def test_equality(self):
        for made, other in [(Stop, Drop), (Drop, Stop)]:
            self.equal_both_ways(made("a", "b"), made("b", "a", "a"))
            self.equal_to_no_other(made("a", "b"), any_values() + other_steps())
            self.equal_to_no_other(made("a"), [other("a"), made("b"), made("a", "b"), ("a",), "stop a"])
            self.assertIs(made("a").__eq__(other("a")), False)

    def test_texts(self):
        self.same(str(Stop("the", "on", "on")), "stop on the")
        self.same(str(Drop("the", "on")), "drop on the")
        self.same(repr(Stop("the", "on")), "Stop('on', 'the')")
        self.same(repr(Drop("on")), "Drop('on')")

    def test_a_list_that_is_passed_stays_and_is_copied(self):
        words = ["the", "on"]
        stop = Stop(*words)
        self.same(words, ["the", "on"])
        words[0] = "a"
        self.same(stop.words, ("on", "the"))


class SwapTest(Case):
    def test_numbers_of_pairs(self):
        pairs = {word: "z" for word in TWENTY[:10]}
        self.same(Swap(**pairs).pairs, tuple((word, "z") for word in TWENTY[:10]))
        self.same(Swap.of(pairs).pairs, Swap(**pairs).pairs)
        self.same(Swap(mice="mouse").pairs, (("mice", "mouse"),))
        self.same(Swap.of(pairs={"mice": "mouse"}).pairs, (("mice", "mouse"),))
        self.fails(InvalidStep, ["words", None], Swap)
        self.fails(InvalidStep, ["words", None], Swap.of, {})
        eleven = {word: "z" for word in TWENTY[:11]}
        self.fails(InvalidStep, ["words", None], Swap, **eleven)
        self.fails(InvalidStep, ["words", None], Swap.of, eleven)

    def test_pairs_stand_in_order(self):
        self.same(Swap(b="x", a="z", c="a").pairs, (("a", "z"), ("b", "x"), ("c", "a")))
        self.same(Swap.of({"b": "x", "a": "z"}).pairs, (("a", "z"), ("b", "x")))

    def test_a_word_is_turned_once(self):
        swap = Swap(a="b", b="a", c="c", d="a")
        for word, result in [("a", "b"), ("b", "a"), ("c", "c"), ("d", "a"), ("e", "e"), ("*", "*"), (None, None)]:
            self.same(swap.result(word), result)
        self.same(swap.result(value="a"), "b")

    def test_names_that_are_no_arguments(self):
        pairs = {"in": "on", "self": "cls", "cls": "pairs", "pairs": "of", "class": "self"}
        swap = Swap.of(pairs)
        self.assertIs(type(swap), Swap)
        self.same(swap.pairs, tuple(sorted(pairs.items())))
        for word in pairs:
            self.same(swap.result(word), pairs[word])
        self.same(swap.result("a"), "a")
        self.same(Swap(pairs="of", cls="a", value="b").pairs, (("cls", "a"), ("pairs", "of"), ("value", "b")))

    def test_wrong_keys_and_values(self):
        for value in any_values():
            self.fails(InvalidStep, ["word", None], Swap, a=value)
            self.fails(InvalidStep, ["word", None], Swap, a="b", c=value)
            self.fails(InvalidStep, ["word", None], Swap.of, {"a": "b", "c": value})
        for key in [None, True, 0, 10 ** 59, "", "A", "a b", "abcdefghijk", (), ("a",)]:
            self.fails(InvalidStep, ["word", None], Swap.of, {key: "a"})
            self.fails(InvalidStep, ["word", None], Swap.of, {"a": "b", key: "a"})
        self.fails(InvalidStep, ["word", None], Swap, **{"A": "a"})
        self.fails(InvalidStep, ["word", None], Swap, a_b="a")

    def test_the_number_is_told_ahead_of_a_wrong_word(self):
        self.fails(InvalidStep, ["words", None], Swap.of, {k: "a" for k in range(11)})
        self.fails(InvalidStep, ["words", None], Swap, **{word: None for word in TWENTY[:11]})
        self.fails(InvalidStep, ["word", None], Swap.of, {k: "a" for k in range(10)})

    def test_values_that_are_no_dict(self):
        for value in any_values() + [[("a", "b")], (("a", "b"),), "ab"]:
            if not isinstance(value, dict):
                self.fails(InvalidStep, ["words", None], Swap.of, value)

    def test_equality(self):
        self.equal_both_ways(Swap(a="b", c="d"), Swap.of({"c": "d", "a": "b"}))
        self.equal_to_no_other(Swap(a="x"), any_values() + other_steps())
        self.equal_to_no_other(Swap(a="b"), [Swap(a="c"), Swap(b="a"), Swap(a="b", b="c"), (("a", "b"),)])

    def test_texts(self):
        self.same(str(Swap(mice="mouse", geese="goose")), "swap geese goose mice mouse")
        self.same(repr(Swap(mice="mouse")), "Swap(mice='mouse')")
        self.same(repr(Swap.of({"self": "a", "in": "b"})), "Swap(in='b', self='a')")

    def test_the_dict_stays_and_is_copied(self):
        pairs = {"b": "x", "a": "z"}
        swap = Swap.of(pairs)
        self.same(pairs, {"b": "x", "a": "z"})
        pairs["a"] = "y"
        pairs["c"] = "d"
        self.same(swap.pairs, (("a", "z"), ("b", "x")))
        self.same(swap.result("a"), "z")
        self.same(swap.result("c"), "c")


class StemTest(Case):
    def test_numbers_of_endings(self):
        self.same(Stem.LEAST, 2)
        self.same(Stem("s").LEAST, 2)
        self.same(Stem("s").endings, ("s",))
        self.same(Stem("s").keep, ())
        self.same(Stem(*"hgfedcba").endings, tuple("abcdefgh"))
        self.same(Stem("s", "es", "s").endings, ("es", "s"))
        self.same(Stem(*["s"] * 8).endings, ("s",))
        self.fails(InvalidStep, ["words", None], Stem)
        self.fails(InvalidStep, ["words", None], Stem, *"abcdefghi")
        self.fails(InvalidStep, ["words", None], Stem, *["s"] * 9)

    def test_letters_of_endings(self):
        self.same(Stem("a", "abcd").endings, ("a", "abcd"))
        self.fails(InvalidStep, ["ending", 0], Stem, "abcde")
        for value in any_values() + ["abcde"]:
            self.fails(InvalidStep, ["ending", 0], Stem, value)
            self.fails(InvalidStep, ["ending", 2], Stem, "s", "es", value, "A")

    def test_kept_words(self):
        self.same(Stem("s", keep=["news", "bus", "news"]).keep, ("bus", "news"))
        self.same(Stem("s", keep=("news",)).keep, ("news",))
        self.same(Stem("s", keep=[]).keep, ())
        self.same(Stem("s", keep=TWENTY).keep, tuple(TWENTY))
        self.same(Stem("s", keep=["abcdefghij"]).keep, ("abcdefghij",))
        self.fails(InvalidStep, ["keep", None], Stem, "s", keep=TWENTY + ["u"])
        self.fails(InvalidStep, ["keep", None], Stem, "s", keep=["a"] * 21)

    def test_wrong_kept_words(self):
        for value in any_values():
            self.fails(InvalidStep, ["keep", None], Stem, "s", keep=[value])
            self.fails(InvalidStep, ["keep", None], Stem, "s", keep=("a", value))
            if not isinstance(value, (list, tuple)):
                self.fails(InvalidStep, ["keep", None], Stem, "s", keep=value)
        for value in ["a", {"a": "b"}, {"a"}, None, True]:
            self.fails(InvalidStep, ["keep", None], Stem, "s", keep=value)

    def test_the_first_error_is_told(self):
        self.fails(InvalidStep, ["words", None], Stem, keep=None)
        self.fails(InvalidStep, ["words", None], Stem, *[None] * 9, keep=None)
        self.fails(InvalidStep, ["ending", 1], Stem, "s", 1, keep=None)
        self.fails(InvalidStep, ["keep", None], Stem, "s", keep=7)

    def test_the_longest_ending_is_taken_off_once(self):
        stem = Stem("s", "es", "sses", "ness", "ing", "xed")
        for word, result in [
            ("cats", "cat"), ("boxes", "box"), ("asses", "ass"), ("glasses", "gla"), ("catss", "cats"),
            ("sing", "sing"), ("doing", "do"), ("cat", "cat"), ("boxed", "bo"), ("singings", "singing"),
        ]:
            self.same(stem.result(word), result)

    def test_two_letters_are_left(self):
        stem = Stem("s", "es", "ses")
        for word, result in [
            ("s", "s"), ("as", "as"), ("aas", "aa"), ("es", "es"), ("aes", "ae"), ("aaes", "aa"), ("ses", "se"),
            ("ases", "as"), ("aases", "aa"), ("aaases", "aaa"), ("a", "a"), ("aa", "aa"),
        ]:
            self.same(stem.result(word), result)
        self.same(Stem("es").result("aes"), "aes")
        self.same(Stem("ness").result("aness"), "aness")
        self.same(Stem("ness").result("aaness"), "aa")

    def test_kept_words_holes_and_nothing_stay(self):
        stem = Stem("s", "us", keep=["news", "bus"])
        for value in ["news", "bus", "*", None]:
            self.same(stem.result(value), value)
        self.same(stem.result(value="viruses"), "viruse")
        self.same(stem.result("corpus"), "corp")

    def test_equality(self):
        self.equal_both_ways(Stem("s", "es", keep=["b", "a"]), Stem("es", "s", "s", keep=("a", "b")))
        self.equal_to_no_other(Stem("x"), any_values() + other_steps())
        self.equal_to_no_other(Stem("s"), [Stem("s", keep=["a"]), Stem("es"), Stem("s", "es"), ("s",)])

    def test_texts(self):
        self.same(str(Stem("s", "es")), "stem es s")
        self.same(str(Stem("s", keep=["news", "bus"])), "stem s - bus news")
        self.same(repr(Stem("s", "es", keep=["news"])), "Stem('es', 's')")

    def test_the_list_stays_and_is_copied(self):
        keep = ["news", "bus"]
        stem = Stem("s", keep=keep)
        self.same(keep, ["news", "bus"])
        keep[0] = "cats"
        keep.append("dogs")
        self.same(stem.keep, ("bus", "news"))
        self.same(stem.result("cats"), "cat")
        self.same(stem.result("news"), "news")


if __name__ == "__main__":
    unittest.main()
