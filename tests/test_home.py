import random
import unittest

from quotehome.chains import Chain
from quotehome.errors import InvalidChain, InvalidText, NoWord
from quotehome.home import asks, found, home_places, missed
from quotehome.rules import Same
from quotehome.steps import Drop, Stem, Stop, Swap
from tests import models
from tests.helper import Case, any_values

X = Chain(Same("a b = p q r"))
PLAIN = Chain()
TWO = Chain(Same("a = b"))
WRONG_TEXTS = [(" ", 0), ("a ", 1), ("a  b", 1), ("a b C", 2), ("abcdefghijk", 0), ("a\n", 0)]


def all_quotes(text):
    many = len(text.split(" ")) if text else 0
    return [(first, last) for first in range(many) for last in range(first, many)]


class HomeCase(Case):
    def missed(self, quotes, writer, asker, text):
        """Just these quotes are missed, and the functions on one quote say the same."""
        self.gives(quotes, missed, writer=writer, asker=asker, text=text)
        for first, last in all_quotes(text):
            self.same(found(writer, asker, text, first, last), (first, last) not in quotes)

    def home(self, places, writer, asker, text, first, last):
        self.gives(places, home_places, writer=writer, asker=asker, text=text, first=first, last=last)


class AsksTest(Case):
    def asks(self, answer, asker, text, first, last):
        self.gives(answer, asks, asker=asker, text=text, first=first, last=last)

    def test_words(self):
        for first, last in all_quotes("a b c"):
            self.asks(True, X, "a b c", first, last)
            self.asks(True, PLAIN, "a b c", first, last)

    def test_quotes_that_ask_nothing(self):
        asker = Chain(Stop("on"), Drop("off"))
        for first, last in all_quotes("on off off on"):
            self.asks(False, asker, "on off off on", first, last)
        self.asks(False, asker, "on off cat", 0, 1)
        self.asks(True, asker, "on off cat", 0, 2)
        self.asks(True, asker, "cat on off", 0, 2)
        self.asks(False, asker, "cat on off", 1, 1)

    def test_what_the_steps_make(self):
        self.asks(False, Chain(Stem("s"), Stop("cat")), "cats", 0, 0)
        self.asks(True, Chain(Stop("cat"), Stem("s")), "cats", 0, 0)
        self.asks(True, Chain(Swap(on="cat"), Stop("on")), "on", 0, 0)
        self.asks(True, Chain(Same("b = a", keep=False)), "a", 0, 0)


class MissedTest(HomeCase):
    def test_plain_chains(self):
        self.missed([], PLAIN, PLAIN, "a b a")
        self.missed([], PLAIN, PLAIN, "")
        self.missed([], X, X, "")

    def test_a_block_of_the_writer_that_the_quote_cuts(self):
        self.missed([(1, 2)], X, X, "a b c")
        self.missed([(0, 2), (1, 2)], X, PLAIN, "a b c")
        self.missed([], PLAIN, X, "a b c")
        self.missed([], X, X, "p q r c")

    def test_sides_of_one_length(self):
        for chain in [Chain(Same("a b = p q")), Chain(Same("a = b = c", "c d = e f"))]:
            self.missed([], chain, chain, "c a b c d e f a")
            self.missed([], chain, PLAIN, "c a b c d e f a")

    def test_holes(self):
        stop = Chain(Stop("on"))
        self.missed([], PLAIN, stop, "cat on mat")
        self.missed([], PLAIN, stop, "on on cat on on on mat on")
        self.missed([], stop, stop, "on cat on on mat on")
        self.missed([(0, 0), (0, 1), (0, 2), (1, 1), (1, 2)], stop, PLAIN, "on on cat")

    def test_nothing(self):
        drop = Chain(Drop("on"))
        self.missed([(0, 2)], PLAIN, drop, "cat on mat")
        self.missed([], PLAIN, drop, "on cat on")
        self.missed([], drop, drop, "on cat on on mat on")
        self.missed([(0, 2)], drop, Chain(Stop("on")), "cat on mat")

    def test_words_kept_and_not_kept_at_each_end(self):
        keep, first = Chain(Same("auto = car")), Chain(Same("auto = car", keep=False))
        self.missed([], keep, keep, "red car car")
        self.missed([], keep, first, "red car car")
        self.missed([], first, first, "red car auto")
        self.missed([], first, keep, "red car auto")
        self.missed([(0, 1), (1, 1)], PLAIN, first, "red car")
        self.missed([(0, 1), (1, 1)], first, PLAIN, "red car")
        self.missed([], PLAIN, keep, "red car")
        self.missed([], keep, PLAIN, "red car")
        self.missed([], Chain(Same("car = auto")), first, "red car")

    def test_a_word_that_stands_for_several_is_asked_by_one_of_them(self):
        first = Chain(Same("c = a b", keep=False))
        # The token c has the words a and b; a quote of one of them does not have all of its words.
        self.missed([(0, 0), (1, 1), (1, 2)], first, first, "a b x")
        self.missed([], first, first, "x c")

    def test_a_side_of_the_asker_with_a_word_of_its_block(self):
        # The word b is asked for a and b, and is found where b stands.
        first = Chain(Same("b = a b", keep=False))
        self.home([2], PLAIN, first, "x a b c", 1, 2)
        self.home([2], PLAIN, first, "x a b c", 1, 3)
        self.missed([(0, 2), (0, 3)], PLAIN, first, "x a b c")

    def test_a_word_that_stands_twice_is_found_where_it_stands(self):
        # The word a is written as c; the word c itself stands elsewhere in the quote.
        first = Chain(Same("c = a", keep=False))
        self.missed([(0, 0), (0, 1)], first, PLAIN, "a c")
        self.missed([(0, 1), (1, 1)], first, PLAIN, "c a")
        swap = Chain(Swap(a="b", b="a"))
        self.missed([(0, 0), (0, 1), (1, 1)], PLAIN, swap, "a b")
        self.missed([(0, 0), (0, 1), (0, 2), (1, 1), (1, 2), (2, 2)], PLAIN, swap, "a b a")
        self.missed([], swap, swap, "a b a")

    def test_one_of_the_words_of_a_token_is_enough(self):
        writer = Chain(Same("x = a b c d", keep=False))
        for number, word in enumerate("abcd"):
            asker = Chain(Stop(*[other for other in "abcd" if other != word]), Same("x = " + word, keep=False))
            self.home([0], writer, asker, "a b c d", 0, 3)
            self.home([4], writer, asker, "e f g h a b c d", 4, 7)
            asking = [(first, last) for first, last in all_quotes("a b c d") if first <= number <= last]
            self.missed([quote for quote in asking if quote != (0, 3)], writer, asker, "a b c d")

    def test_a_token_that_reaches_far_behind_the_asked_block(self):
        writer = Chain(Same("y = a b c d", keep=False))
        asker = Chain(Stop("b", "c", "d"), Same("y = m n o a", keep=False))
        self.missed(
            [(0, 3), (0, 4), (0, 5)] + [(first, last) for first in [1, 2, 3] for last in range(3, 7)],
            writer, asker, "m n o a b c d")
        self.home([3], writer, asker, "m n o a b c d", 0, 6)
        text = "m n o a b c d m n"
        self.same(models.missed(writer, asker, text), list(missed(writer, asker, text)))

    def test_the_places_of_words_that_stand_twice(self):
        writer = Chain(Same("a = b c d"))
        self.missed([(0, 1), (0, 2), (1, 2)], writer, PLAIN, "a a a")
        self.missed([], PLAIN, writer, "a a a")
        self.missed([(0, 1)], writer, PLAIN, "a a")

    def test_the_examples_of_the_document(self):
        on_stop, on_drop = Chain(Stop("on")), Chain(Drop("on"))
        self.missed([], PLAIN, on_stop, "cat on mat")
        self.missed([(0, 2)], PLAIN, on_drop, "cat on mat")
        self.missed([], PLAIN, on_drop, "on cat on")
        self.missed([(1, 2)], X, X, "a b c")
        self.same(found(X, X, "a b c", 0, 2), True)
        self.missed([(0, 2), (1, 2)], X, PLAIN, "a b c")
        self.missed([], PLAIN, X, "a b c p q r a b b a")
        same_length = Chain(Same("a b = p q"))
        self.missed([], same_length, same_length, "a b c p q a b b a")
        bank = Chain(Stop("of", "the"), Same("bank of england = boe"))
        self.missed([], bank, bank, "bank of england")
        kept, first = Chain(Same("car = auto")), Chain(Same("auto = car", keep=False))
        for writer, asker, quotes in [(PLAIN, kept, []), (kept, first, []), (PLAIN, first, [(0, 0)])]:
            self.missed(quotes, writer, asker, "car")

    def test_the_examples_of_the_interface(self):
        self.same(
            [list(missed(X, X, "a b c")), list(missed(X, PLAIN, "a b c")), list(missed(PLAIN, X, "a b c"))],
            [[(1, 2)], [(0, 2), (1, 2)], []])
        self.same(
            [home_places(X, X, "a b c", 0, 2), found(Chain(Stop("on")), PLAIN, "on cat", 0, 0),
             asks(Chain(Stop("on")), "on cat", 0, 0)],
            [[0], False, False])

    def test_the_example_of_york(self):
        york = Chain(Same("york = new york"))
        self.missed([], york, PLAIN, "york x")
        self.same(york("york x").tokens, ((0, "new", 0, 0), (0, "york", 0, 0), (1, "york", 0, 0), (2, "x", 1, 1)))

    def test_two_generators_by_turns(self):
        one, other = missed(X, PLAIN, "a b c"), missed(X, X, "a b c d")
        self.same([next(one), next(other), next(one), next(other)], [(0, 2), (1, 2), (1, 2), (1, 3)])
        self.same([list(one), list(other)], [[], []])

    def test_quotes_that_ask_nothing_are_found(self):
        for writer in [PLAIN, X, Chain(Drop("on")), Chain(Stop("on"))]:
            for asker in [Chain(Stop("on")), Chain(Drop("on"))]:
                self.missed([], writer, asker, "on on on")
                self.home([], writer, asker, "on cat on", 0, 0)


class HomePlacesTest(HomeCase):
    def test_each_word(self):
        for number in range(4):
            self.home([number], PLAIN, PLAIN, "a a a a", number, number)
        self.home([1], PLAIN, PLAIN, "a a a a", 1, 3)

    def test_places_of_the_writer(self):
        self.home([0], X, X, "a b c", 0, 2)
        self.home([3], X, X, "a b c", 2, 2)
        self.home([1], X, X, "a b c", 1, 1)
        self.home([], X, X, "a b c", 1, 2)
        self.home([0, 1], Chain(Same("york = new york")), PLAIN, "york x", 0, 0)
        self.home([1], Chain(Same("york = new york")), PLAIN, "york x", 0, 1)

    def test_holes_at_the_beginning(self):
        stop = Chain(Stop("on"))
        self.home([2], PLAIN, stop, "on on cat", 0, 2)
        self.home([0], Chain(Drop("on")), stop, "on on cat", 0, 2)
        self.home([0], Chain(Drop("on")), stop, "on on cat on", 1, 3)
        self.home([], PLAIN, stop, "on on cat", 0, 1)

    def test_each_place_once(self):
        chain = Chain(Same("a = a b", "a = a c"))
        self.home([0], chain, chain, "a a", 0, 0)
        self.home([2], chain, chain, "a a", 1, 1)

    def test_long_texts(self):
        text = " ".join(["a"] * 2000)
        self.home([0], TWO, TWO, text, 0, 1999)
        self.home([1000], TWO, TWO, text, 1000, 1999)
        self.same(found(X, X, " ".join(["c"] * 1997 + ["a", "b", "c"]), 1998, 1999), False)
        self.same(found(X, X, " ".join(["c"] * 1997 + ["a", "b", "c"]), 0, 1999), True)
        self.same(asks(Chain(Stop("a")), text + " b", 0, 2000), True)


class LongTextsTest(HomeCase):
    def test_forty_words_of_sides(self):
        chain = Chain(Same("a b = p q r", "b c = a", "a a = b", "p = q", "q r = a b c", "c = b = a a"))
        dice = random.Random(3)
        for letters in ["abcpqr", "ab", "abc", "pqr"]:
            text = " ".join(dice.choice(letters) for _ in range(40))
            self.missed([], PLAIN, chain, text)
            for asker in [chain, PLAIN]:
                quotes = list(missed(chain, asker, text))
                self.same(
                    [pair for pair in all_quotes(text) if not found(chain, asker, text, pair[0], pair[1])], quotes)

    def test_very_many_ways(self):
        for many in [40, 200]:
            text = " ".join(["a"] * many)
            self.same(list(missed(TWO, TWO, text)), [])
            self.same(list(missed(TWO, Chain(Same("a = b", keep=False)), text)), [])
            quotes = list(missed(Chain(Same("a = b c")), TWO, text))
            self.same(quotes, [pair for pair in all_quotes(text) if pair[0] < pair[1]])

    def test_the_last_quotes_of_a_long_text(self):
        text = " ".join(["c"] * 400 + ["a", "b"] + ["c"] * 2)
        self.same(list(missed(X, X, text)), [(401, 402), (401, 403)])
        text = " ".join(["a", "b"] + ["c"] * 400)
        self.same(list(missed(X, X, text)), [(1, last) for last in range(2, 402)])


class ErrorsTest(Case):
    CALLS = [
        (asks, {"asker": X}), (found, {"writer": X, "asker": X}), (home_places, {"writer": X, "asker": X}),
    ]

    def wrong(self, error, fields, text, first, last):
        for call, chains in self.CALLS:
            self.fails_in_all_ways(error, fields, call, **chains, text=text, first=first, last=last)

    def test_wrong_texts(self):
        for text, index in WRONG_TEXTS:
            self.wrong(InvalidText, [index], text, 0, 0)
            self.fails_in_all_ways(InvalidText, [index], missed, writer=X, asker=X, text=text)
        for value in any_values():
            if not isinstance(value, str):
                self.wrong(InvalidText, [0], value, 0, 0)
                self.fails_in_all_ways(InvalidText, [0], missed, writer=X, asker=X, text=value)

    def test_wrong_first_numbers(self):
        for value in any_values() + [2, 3, -1, "0"]:
            if value is True or value is False or value not in (0, 1):
                self.wrong(NoWord, [value], "a b", value, 1)
        self.wrong(NoWord, [0], "", 0, 0)

    def test_wrong_last_numbers(self):
        for value in any_values() + [2, 3, -1, "1"]:
            if value is True or value is False or value not in (0, 1):
                self.wrong(NoWord, [value], "a b", 0, value)
        self.wrong(NoWord, [0], "a b", 1, 0)
        self.wrong(NoWord, [1], "a b c", 2, 1)

    def test_several_errors(self):
        for value in any_values():
            self.wrong(InvalidText, [1], "a ", value, value)
            if value is True or value is False or value not in (0, 1):
                self.wrong(NoWord, [value], "a b", value, None)
                self.wrong(NoWord, [None], "a b", None, value)
        self.wrong(NoWord, [2], "a b", 2, 1)
        self.wrong(NoWord, [-1], "", -1, 5)


class FactsTest(Case):
    def test_askers_that_keep_words_find_all_in_sides_of_one_length(self):
        dice = random.Random(21)
        many = 0
        while many < 60:
            asker = models.some_chain(dice, most_words=4)
            lengths = [dice.randint(1, 3) for _ in range(dice.randint(1, 3))]
            rules = [
                " = ".join(" ".join(dice.choice("abcdef") for _ in range(length)) for _ in range(dice.randint(2, 3)))
                for length in lengths]
            try:
                writers = [asker.bare(), asker.with_rules(*rules)]
            except InvalidChain:
                continue
            if asker.keep:
                many += 1
                for writer in writers:
                    for text in [models.some_text(dice, 8), models.some_text(dice, 12, "abc")]:
                        self.same(list(missed(writer, asker, text)), [])
                        self.same(list(missed(writer, asker.bare(), text)), [])

    def test_equal_chains(self):
        dice = random.Random(22)
        for _ in range(60):
            chain = models.some_chain(dice, most_words=4)
            text = models.some_text(dice, 10)
            quotes = list(missed(chain, chain, text))
            many = len(text.split(" ")) if text else 0
            self.assertNotIn((0, many - 1), quotes)
            if chain.keep:
                inside = [number for block in chain(text) for number in range(block.first + 1, block.last + 1)]
                self.assertLessEqual({first for first, _ in quotes}, set(inside))

    def test_longer_sides_beside_a_side(self):
        for rule, text, first, last in [
                ("a b = p q r", "a b c", 1, 2), ("a = p q", "a c", 0, 1), ("a b c = p = q r s t", "a b c x", 2, 3)]:
            self.same(found(Chain(Same(rule)), PLAIN, text, first, last), False)

    def test_another_word_of_the_same_kind(self):
        # A word in the place of another one of its kind changes nothing.
        for text, other in [("a b c", "a b zz"), ("a b c a b c", "a b zz a b yy")]:
            self.same(list(missed(X, X, text)), list(missed(X, X, other)))


class ModelTest(Case):
    def test_many_chains(self):
        dice = random.Random(23)
        many = 0
        for _ in range(100):
            writer, asker = models.some_pair(dice, most_words=dice.choice([2, 3, 4]))
            text = models.some_text(dice, 6, dice.choice(["abcdefg", "abc", "ab", "abe"]))
            quotes = models.missed(writer, asker, text)
            many += len(quotes)
            self.same(list(missed(writer, asker, text)), quotes)
            for first, last in all_quotes(text):
                self.same(
                    home_places(writer, asker, text, first, last),
                    sorted(models.homes(writer, asker, text, first, last)))
                self.same(found(writer, asker, text, first, last), (first, last) not in quotes)
                self.same(asks(asker, text, first, last), models.asks(asker, text, first, last))
        self.assertGreater(many, 100)


if __name__ == "__main__":
    unittest.main()
