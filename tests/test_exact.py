import random
import unittest

from quotehome.chains import Chain
from quotehome.errors import InvalidText, NoWord
from quotehome.exact import found_exactly, lies
from quotehome.home import found, missed
from quotehome.rules import Same
from quotehome.steps import Drop, Stem, Stop
from tests import models
from tests.helper import Case, any_values

X = Chain(Same("a b = p q r"))
PLAIN = Chain()
TWO = Chain(Same("a = b"))
HOLES = Chain(Stop("on", "off"))


def run(word, many):
    return " ".join([word] * many)


class LiesTest(Case):
    def lies(self, answer, asked, written):
        self.gives(answer, lies, asked=asked, written=written)

    def test_words_of_plain_graphs(self):
        self.lies(True, PLAIN("b c"), PLAIN("a b c d"))
        self.lies(True, PLAIN("a"), PLAIN("a"))
        self.lies(False, PLAIN("b d"), PLAIN("a b c d"))
        self.lies(False, PLAIN("a a"), PLAIN("a b a"))
        self.lies(False, PLAIN("a"), PLAIN(""))

    def test_the_lengths_of_sides_are_kept(self):
        self.lies(True, PLAIN("b c"), X("a b c"))
        self.lies(True, PLAIN("r c"), X("a b c"))
        self.lies(True, PLAIN("q r c"), X("a b c"))
        self.lies(False, PLAIN("q c"), X("a b c"))
        self.lies(True, PLAIN("c p q r a b"), X("c a b p q r"))

    def test_tokens_of_unlike_ways_do_not_lie(self):
        self.lies(False, PLAIN("b r"), X("a b"))
        self.lies(False, PLAIN("a q"), X("a b"))
        self.lies(False, PLAIN("p b"), X("a b"))
        self.lies(True, X("a b"), X("p q r"))
        self.lies(True, X("c a b"), PLAIN("c p q r"))

    def test_a_way_without_words_lies_nowhere(self):
        for asked in [PLAIN(""), HOLES("on"), HOLES("on off"), Chain(Drop("a"))("a a")]:
            for written in [PLAIN(""), PLAIN("a b"), HOLES("on a"), X("a b")]:
                self.lies(False, asked, written)

    def test_holes_at_both_ends(self):
        self.lies(True, HOLES("on a"), PLAIN("a"))
        self.lies(True, HOLES("on on off a off on on"), PLAIN("a"))
        self.lies(True, HOLES("a on on on"), X("a b"))
        self.lies(True, HOLES("on on b"), X("a b"))

    def test_holes_inside(self):
        self.lies(True, HOLES("a on c"), PLAIN("x a b c"))
        self.lies(True, HOLES("a on c"), HOLES("a off c"))
        self.lies(False, HOLES("a on c"), PLAIN("a c"))
        self.lies(False, HOLES("a on c"), PLAIN("a b b c"))
        self.lies(True, HOLES("a on c"), X("a b c"))
        self.lies(True, HOLES("p on on c"), X("a b c"))
        self.lies(False, HOLES("p on c"), X("a b c"))
        self.lies(False, HOLES("a on on c"), X("a b c"))
        self.lies(True, HOLES("a on on on on c"), PLAIN("a x x x x c"))

    def test_holes_of_sides(self):
        bank = Chain(Stop("of", "the"), Same("bank of england = boe"))
        self.lies(True, bank("boe x"), PLAIN("bank a england x"))
        self.lies(True, PLAIN("england x"), bank("boe x"))
        self.lies(False, PLAIN("bank england"), bank("boe"))
        self.lies(False, PLAIN("bank of england"), bank("boe"))
        self.lies(True, bank("boe x"), bank("bank the england x"))

    def test_nothing_counts_no_entry(self):
        drop = Chain(Drop("on"))
        self.lies(True, drop("a on b"), PLAIN("a b"))
        self.lies(True, PLAIN("a b"), drop("a on b on"))
        self.lies(False, PLAIN("a on b"), drop("a on b"))
        self.lies(True, drop("on a on"), drop("on on a"))

    def test_sides_longer_than_others(self):
        chain = Chain(Same("a = b c d e = f g"))
        for quote in ["x a y", "x b c d e y", "x f g y", "e y", "g y", "a y", "x f"]:
            self.lies(True, PLAIN(quote), chain("x a y"))
        for quote in ["x y", "x g", "x a b", "f y", "d y", "x c"]:
            self.lies(False, PLAIN(quote), chain("x a y"))
        self.lies(True, PLAIN("e f g a b"), chain("a a a a"))
        self.lies(True, chain("a a"), PLAIN("x b c d e f g y"))
        self.lies(False, chain("a a"), PLAIN("x b c d f g y"))

    def test_graphs_with_very_many_ways(self):
        self.lies(True, TWO(run("a", 60)), TWO(run("b", 60)))
        self.lies(False, TWO(run("a", 61)), TWO(run("b", 60)))
        self.lies(False, TWO(run("a", 60) + " c"), TWO(run("b", 60)))
        wide = Chain(Same("a = b c = d e f = g h i j"))
        self.lies(True, wide(run("a", 40)), wide(run("a", 40)))
        self.lies(True, PLAIN(run("b c", 40)), wide(run("a", 40)))
        self.lies(False, wide(run("a", 40) + " k"), wide(run("a", 40)))
        self.lies(True, TWO(run("a", 300)), TWO(run("a", 400)))

    def test_the_model(self):
        dice = random.Random(31)
        answers = []
        for _ in range(200):
            writer, asker = models.some_pair(dice)
            letters = dice.choice(["abcdefg", "abc", "abe"])
            asked, written = asker(models.some_text(dice, 4, letters)), writer(models.some_text(dice, 6, letters))
            answers.append(models.lies(
                models.told_ways(asked), models.told_ways(written), lambda entry, other: entry[0] == other[0]))
            self.same(lies(asked, written), answers[-1])
        self.assertGreater(min(answers.count(True), answers.count(False)), 20)


class FoundExactlyTest(Case):
    def exactly(self, answer, writer, asker, text, first, last):
        self.gives(answer, found_exactly, writer=writer, asker=asker, text=text, first=first, last=last)

    def test_what_is_missed_since_lengths_are_forgotten(self):
        self.exactly(True, X, X, "a b c", 1, 2)
        self.same(found(X, X, "a b c", 1, 2), False)
        self.exactly(True, X, PLAIN, "a b c", 0, 2)
        self.exactly(True, X, PLAIN, "a b c", 1, 2)

    def test_what_is_not_found_exactly_either(self):
        self.exactly(False, Chain(Stop("on")), PLAIN, "on cat", 0, 0)
        self.exactly(False, PLAIN, Chain(Drop("on")), "cat on mat", 0, 2)
        self.exactly(False, PLAIN, Chain(Same("auto = car", keep=False)), "red car", 0, 1)
        self.exactly(True, PLAIN, Chain(Same("auto = car", keep=False)), "red car", 0, 0)

    def test_what_is_found_but_not_exactly(self):
        # The ways (a, b) and (p, q, r) lend one token each.
        asker = Chain(Same("p b = a b", keep=False))
        self.exactly(False, X, asker, "a b", 0, 1)
        self.same(found(X, asker, "a b", 0, 1), True)
        self.exactly(False, X, Chain(Same("a q = a b", keep=False)), "c a b c", 1, 2)
        self.exactly(True, X, Chain(Same("p q = a b", keep=False)), "c a b c", 1, 2)

    def test_quotes_that_ask_nothing(self):
        for asker in [Chain(Stop("on")), Chain(Drop("on"))]:
            self.exactly(True, PLAIN, asker, "on on cat", 0, 1)
            self.exactly(True, Chain(Drop("on", "cat")), asker, "on on cat", 0, 1)
            self.exactly(False, Chain(Drop("on", "cat")), asker, "on on cat", 0, 2)

    def test_holes_at_both_ends_and_inside(self):
        stop = Chain(Stop("on"))
        for first in range(3):
            for last in range(3, 6):
                self.exactly(True, PLAIN, stop, "on on cat mat on on", first, last)
                self.exactly(True, stop, stop, "on on cat mat on on", first, last)
        self.exactly(True, PLAIN, stop, "cat on mat", 0, 2)
        self.exactly(False, Chain(Drop("on")), stop, "cat on mat", 0, 2)
        self.exactly(True, Chain(Drop("on")), stop, "on cat on", 0, 2)

    def test_the_quote_alone_is_looked_at(self):
        # The way (p, q, r) comes from a and b together, and the quote has one of them.
        first = Chain(Same("p q r = a b", keep=False))
        asker = Chain(Same("p q r = a", keep=False))
        self.exactly(True, first, first, "c a b", 1, 2)
        self.exactly(False, first, asker, "c a b", 1, 1)
        self.exactly(True, Chain(Same("p q r = a", keep=False)), asker, "c a b", 1, 1)
        # The word b stands beside the quote.
        self.exactly(False, PLAIN, Chain(Same("b = a", keep=False)), "a b", 0, 0)
        self.exactly(False, PLAIN, Chain(Same("b = a", keep=False)), "a b", 0, 1)

    def test_one_of_the_words_of_an_entry_is_enough(self):
        writer = Chain(Same("x = a b c", keep=False))
        for word in "abc":
            asker = Chain(Stop(*[other for other in "abc" if other != word]), Same("x = " + word, keep=False))
            self.exactly(True, writer, asker, "a b c", 0, 2)
            self.exactly(word == "c", writer, asker, "a b c", 0, 1)
            self.exactly(word == "a", writer, asker, "a b c", 1, 2)

    def test_chains_that_keep_words_find_every_quote_exactly(self):
        dice = random.Random(32)
        many = 0
        for _ in range(150):
            writer = models.some_chain(dice, most_words=4)
            other = models.some_chain(dice, most_words=4)
            if not writer.keep or not other.keep:
                continue
            many += 1
            askers = [writer, writer.bare()]
            if len(other.bare()) == 0 and len(writer.bare()) == 0:
                askers.append(other)
            text = models.some_text(dice, 8)
            length = len(text.split(" ")) if text else 0
            for asker in askers:
                for first in range(length):
                    for last in range(first, length):
                        self.same(found_exactly(writer, asker, text, first, last), True)
        self.assertGreater(many, 40)

    def test_very_many_ways_and_long_texts(self):
        for text in [run("a", 60), run("a b", 400)]:
            last = len(text.split(" ")) - 1
            self.exactly(True, TWO, TWO, text, 0, last)
            self.exactly(True, TWO, PLAIN, text, 1, last - 1)
            self.exactly(False, TWO, Chain(Stop("c"), Same("d = a", keep=False)), text, 0, last)

    def test_the_example(self):
        self.same(
            [found_exactly(X, X, "a b c", 1, 2), found(X, X, "a b c", 1, 2), lies(PLAIN("b r"), X("a b")),
             list(missed(X, X, "a b c"))],
            [True, False, False, [(1, 2)]])

    def test_the_model(self):
        dice = random.Random(33)
        answers = []
        for _ in range(80):
            writer, asker = models.some_pair(dice, most_words=dice.choice([2, 3, 4]))
            text = models.some_text(dice, 6, dice.choice(["abcdefg", "abc", "abe"]))
            many = len(text.split(" ")) if text else 0
            for first in range(many):
                for last in range(first, many):
                    answers.append(models.found_exactly(writer, asker, text, first, last))
                    self.same(found_exactly(writer, asker, text, first, last), answers[-1])
                    if found(writer, asker, text, first, last) and models.sided(writer, asker) == set():
                        self.same(answers[-1], True)
        self.assertGreater(answers.count(False), 50)


class ErrorsTest(Case):
    def wrong(self, error, fields, text, first, last):
        self.fails_in_all_ways(
            error, fields, found_exactly, writer=X, asker=Chain(Stem("s")), text=text, first=first, last=last)

    def test_wrong_texts(self):
        for text, index in [(" ", 0), ("a ", 1), ("a  b", 1), ("a b C", 2), ("abcdefghijk", 0)]:
            self.wrong(InvalidText, [index], text, 0, 0)
        for value in any_values():
            if not isinstance(value, str):
                self.wrong(InvalidText, [0], value, 0, 0)

    def test_wrong_numbers(self):
        for value in any_values() + [2, -1]:
            if value is True or value is False or value not in (0, 1):
                self.wrong(NoWord, [value], "a b", value, 1)
                self.wrong(NoWord, [value], "a b", 0, value)
        self.wrong(NoWord, [0], "", 0, 0)
        self.wrong(NoWord, [0], "a b", 1, 0)

    def test_several_errors(self):
        for value in any_values():
            self.wrong(InvalidText, [1], "a ", value, value)
            if value is True or value is False or value not in (0, 1):
                self.wrong(NoWord, [value], "a b", value, None)
                self.wrong(NoWord, [None], "a b", None, value)


if __name__ == "__main__":
    unittest.main()
