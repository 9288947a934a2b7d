import unittest

from quotehome.errors import InvalidText
from quotehome.words import is_word, text_of, words_of
from tests.helper import Case, any_values

LETTERS = "abcdefghijklmnopqrstuvwxyz"


class IsWordTest(Case):
    def test_words(self):
        for word in ["a", "z", "zoo", "abcdefghij", "qqqqqqqqqq"] + list(LETTERS):
            self.assertIs(is_word(word), True)
        self.assertIs(is_word(value="a"), True)

    def test_other_values(self):
        for value in any_values() + [b"a", "\u00e9", "a\u00df", "a\tb", "\u0430"]:
            self.assertIs(is_word(value), False)

    def test_every_other_character(self):
        for code in range(128):
            self.assertIs(is_word(chr(code)), chr(code) in LETTERS)
            self.assertIs(is_word("a" + chr(code) + "a"), chr(code) in LETTERS)


class WordsOfTest(Case):
    def test_texts(self):
        self.same(words_of(""), ())
        self.same(words_of("a"), ("a",))
        self.same(words_of("b a b"), ("b", "a", "b"))
        self.same(words_of(text="abcdefghij z"), ("abcdefghij", "z"))

    def test_the_longest_text(self):
        self.same(words_of(" ".join(["a"] * 2000)), ("a",) * 2000)

    def test_index_of_the_first_wrong_part(self):
        for text, index in [
            (" ", 0), ("  ", 0), (" a", 0), ("a ", 1), ("a  b", 1), ("a b ", 2), ("A b C", 0), ("a B C", 1),
            ("a b c1", 2), ("a\nb", 0), ("a b\nc d", 1), ("a \n", 1), ("\n", 0), ("abcdefghijk", 0),
            ("a abcdefghij abcdefghijk b", 2), ("a b * c", 2), ("a, b", 0), ("a " * 2000, 2000), ("a" * 4000, 0),
        ]:
            self.fails(InvalidText, [index], words_of, text)

    def test_values_that_are_no_strings(self):
        for value in any_values() + [b"a"]:
            if not isinstance(value, str):
                self.fails(InvalidText, [0], words_of, value)


class TextOfTest(Case):
    def test_a_list_and_a_tuple(self):
        self.same(text_of([]), "")
        self.same(text_of(()), "")
        self.same(text_of(["a"]), "a")
        self.same(text_of(("b", "a", "b")), "b a b")
        self.same(text_of(words=["cat", "on"]), "cat on")

    def test_there_and_back(self):
        words = ["mat", "abcdefghij", "a"]
        self.same(words_of(text_of(words)), tuple(words))
        self.same(words, ["mat", "abcdefghij", "a"])
        self.same(text_of(words_of("b a")), "b a")


if __name__ == "__main__":
    unittest.main()
