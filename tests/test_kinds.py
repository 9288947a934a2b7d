import itertools
import random
import string
import unittest

from quotehome.chains import Chain
from quotehome.errors import InvalidWord
from quotehome.home import missed
from quotehome.kinds import kinds, like
from quotehome.rules import Same
from quotehome.steps import Drop, Stem, Stop, Swap
from quotehome.words import is_word
from tests import models
from tests.helper import Case, any_values

X = Chain(Same("a b = p q r"))
PLAIN = Chain()
# All words of up to six of these letters, and some long ones.
SOME_WORDS = ["".join(letters) for many in range(1, 7) for letters in itertools.product("abs", repeat=many)]
LONG_WORDS = ["a" * 10, "s" * 10, "ab" * 5, "sa" * 5, "aaaaaaaabs", "zzzzzzzzzz", "z", "zz", "zs", "zzs", "zes", "zzes"]


class KindsCase(Case):
    def kinds(self, many, writer, asker, words=()):
        """There are so many kinds, and each of these words has its kind among them just once."""
        answer = kinds(writer, asker)
        self.gives(answer, kinds, writer=writer, asker=asker)
        self.same([len(answer), len(kinds(asker, writer))], [many, many])
        self.complete(answer, writer, asker, words)

    def complete(self, answer, writer, asker, words):
        self.assertIs(type(answer), tuple)
        self.same(answer, tuple(sorted(set(answer))))
        self.assertTrue(all(is_word(word) for word in answer))
        sided = models.sided(writer, asker)

        def trait(word):
            results = [writer.result(word), asker.result(word)]
            return (
                tuple("" if value not in (None, "*") and value not in sided else value for value in results),
                results[0] == results[1])

        traits = [trait(word) for word in answer]
        self.same(len(set(traits)), len(traits))
        for word in words:
            self.assertIn(trait(word), traits, (word, str(writer), str(asker)))


class LikeTest(KindsCase):
    def like(self, answer, writer, asker, one, other):
        self.gives(answer, like, writer=writer, asker=asker, one=one, other=other)
        self.gives(answer, like, writer=asker, asker=writer, one=other, other=one)
        self.same(models.like(writer, asker, one, other), answer)

    def test_entries_of_sides(self):
        for one in "abpqr":
            self.like(True, X, PLAIN, one, one)
            self.like(False, X, PLAIN, one, "x")
            for other in set("abpqr") - {one}:
                self.like(False, X, PLAIN, one, other)
        self.like(True, X, PLAIN, "x", "zoo")
        self.like(True, X, PLAIN, "c", "abcdefghij")
        self.like(False, Chain(Same("c = d")), X, "c", "a")

    def test_holes_and_nothing(self):
        one, other = Chain(Stop("on", "of", "in")), Chain(Drop("on", "at", "in"))
        self.like(False, one, other, "on", "of")
        self.like(False, one, other, "on", "at")
        self.like(False, one, other, "at", "of")
        self.like(True, one, other, "on", "in")
        self.like(False, one, other, "on", "cat")
        self.like(False, one, other, "at", "cat")
        self.like(True, one, one, "on", "of")

    def test_words_outside_of_sides_with_unlike_results(self):
        swap = Chain(Swap(a="b", c="d"))
        self.like(True, swap, swap, "a", "x")
        self.like(False, swap, PLAIN, "a", "x")
        self.like(True, swap, PLAIN, "a", "c")
        self.like(True, swap, Chain(Swap(a="b")), "a", "x")
        self.like(False, swap, Chain(Swap(a="c")), "a", "x")
        self.like(True, swap, Chain(Swap(a="c")), "a", "c")

    def test_words_that_become_an_entry(self):
        stem = Chain(Stem("s"), Same("cat = dog"))
        self.like(True, stem, stem, "cats", "cat")
        self.like(False, stem, PLAIN, "cats", "cat")
        self.like(False, stem, stem, "cats", "dogs")
        self.like(False, stem, PLAIN, "cats", "cows")
        self.like(True, stem, PLAIN, "hens", "cows")
        self.like(False, stem, PLAIN, "hens", "cow")

    def test_wrong_words(self):
        for value in any_values():
            self.fails_in_all_ways(InvalidWord, [value], like, writer=X, asker=PLAIN, one=value, other="a")
            self.fails_in_all_ways(InvalidWord, [value], like, writer=X, asker=PLAIN, one="a", other=value)
            self.fails_in_all_ways(InvalidWord, [value], like, writer=X, asker=PLAIN, one=value, other=None)
            self.fails_in_all_ways(InvalidWord, [None], like, writer=X, asker=PLAIN, one=None, other=value)

    def test_the_example(self):
        self.same([len(kinds(X, PLAIN)), like(X, PLAIN, "x", "zoo"), like(X, PLAIN, "a", "zoo")], [6, True, False])


class KindsTest(KindsCase):
    def test_plain_chains(self):
        self.kinds(1, PLAIN, PLAIN, SOME_WORDS)
        self.kinds(6, X, PLAIN, SOME_WORDS + list("abcpqr"))
        self.kinds(6, X, X, list(string.ascii_lowercase))
        self.kinds(8, X, Chain(Same("a = c d")), list(string.ascii_lowercase))

    def test_holes_and_nothing(self):
        self.kinds(2, Chain(Stop("on")), PLAIN, ["on", "of", "o"])
        self.kinds(2, Chain(Drop("on", "of")), PLAIN, ["on", "of", "o"])
        self.kinds(4, Chain(Stop("on", "of")), Chain(Drop("on", "at")), ["on", "of", "at", "o"])
        self.kinds(2, Chain(Stop("on")), Chain(Stop("on")), ["on", "o"])

    def test_swaps(self):
        self.kinds(2, Chain(Swap(a="b")), PLAIN, SOME_WORDS)
        self.kinds(1, Chain(Swap(a="b")), Chain(Swap(a="b")), SOME_WORDS)
        self.kinds(1, Chain(Swap(a="a")), PLAIN, SOME_WORDS)
        self.kinds(2, Chain(Swap(a="b", b="a")), PLAIN, SOME_WORDS)
        self.kinds(2, Chain(Swap(a="b"), Stop("b")), Chain(Swap(b="s")), SOME_WORDS)
        self.kinds(3, Chain(Swap(a="b"), Stop("b")), Chain(Swap(s="b")), SOME_WORDS)

    def test_stems(self):
        self.kinds(2, Chain(Stem("s")), PLAIN, SOME_WORDS + LONG_WORDS)
        self.kinds(1, Chain(Stem("s")), Chain(Stem("s")), SOME_WORDS + LONG_WORDS)
        self.kinds(2, Chain(Stem("s")), Chain(Stem("s", "es")), SOME_WORDS + LONG_WORDS)
        self.kinds(2, Chain(Stem("s")), Chain(Stem("s", keep=["gas"])), SOME_WORDS + LONG_WORDS + ["gas"])
        self.kinds(2, Chain(Stem("a", "s")), Chain(Stem("s", "a"), Stop("aa")), SOME_WORDS + LONG_WORDS)
        self.kinds(2, Chain(Stem(*"abcdefgh")), Chain(Stem(*"hijklmno")), SOME_WORDS + LONG_WORDS)

    def test_endings_that_leave_just_two_letters(self):
        one = Chain(Stem("abab", "ab"), Same("ab = aba = ss"))
        self.kinds(4, one, one, SOME_WORDS + LONG_WORDS)
        self.same([one.result(word) for word in ["ababab", "abab", "bab", "abaab"]], ["ab", "ab", "bab", "aba"])
        long = Chain(Stem("abab"), Stop("ab"))
        self.kinds(3, long, PLAIN, SOME_WORDS + LONG_WORDS)

    def test_endings_at_ten_letters(self):
        word = "abcdefghij"
        chain = Chain(Stem("ghij", "j"), Stop("abcdef"))
        self.same(chain.result(word), "*")
        self.kinds(3, chain, PLAIN, [word, "abcdef", "abcdefg", "abcdefj", "abcdefghi", "x"])
        self.kinds(3, Chain(Stem("j"), Stop("abcdefghi")), PLAIN, [word, "abcdefghi"])
        # The stem leaves this word of no other one, since eleven letters are no word, nor of this one itself.
        self.kinds(2, Chain(Stem("j"), Stop(word)), PLAIN, [word, "abcdefghi"])
        self.kinds(3, Chain(Stem("j", keep=[word]), Stop(word)), PLAIN, [word, "abcdefghi"])

    def test_kept_words(self):
        chain = Chain(Stem("s", keep=["gas", "bus"]), Same("gas = bus = ga"))
        self.same(
            [chain.result(word) for word in ["gas", "bus", "ga", "gass", "buss"]], ["gas", "bus", "ga", "gas", "bus"])
        self.kinds(4, chain, chain, SOME_WORDS + ["gas", "bus", "ga", "gass", "buss", "bu"])
        self.kinds(7, chain, PLAIN, SOME_WORDS + ["gas", "bus", "ga", "gass", "buss", "bu", "bas"])

    def test_several_steps_in_a_row(self):
        chain = Chain(Swap(aa="bs"), Stem("s", keep=["abs"]), Swap(ab="as", bs="ss"), Stop("ss"), Same("as = ba"))
        words = SOME_WORDS + LONG_WORDS
        for other in [PLAIN, chain, Chain(Drop("as")), Chain(Stem("bs", "s")), X]:
            answer = kinds(chain, other)
            self.complete(answer, chain, other, words)
            self.kinds(len(answer), chain, other)

    def test_results_that_are_entries_of_the_other_chain(self):
        writer, asker = Chain(Stem("s")), Chain(Same("cat = dog"))
        self.kinds(6, writer, asker, ["cat", "cats", "dog", "dogs", "catss", "hen", "hens"])

    def test_each_letter_ends_some_ending_of_a_chain(self):
        one, other = Chain(Stem(*"abcdefgh")), Chain(Stem(*[letter + "z" for letter in "abcdefgh"]))
        words = [first + last for first in ["x", "xx", "xxxxxx"] for last in string.ascii_lowercase]
        self.kinds(2, one, other, words + [word + "z" for word in words])

    def test_each_letter_begins_a_word_of_a_step(self):
        letters = string.ascii_lowercase
        stops = Chain(Stop(*letters[:20]), Stop(*letters[20:]))
        words = list(letters) + [one + other for one in "abz" for other in letters] + LONG_WORDS
        self.kinds(2, stops, stops, words)
        self.kinds(3, stops | Stem("a"), stops, words + [word + "a" for word in words if len(word) < 10])
        self.kinds(2, stops | Stem("a"), stops | Stem("a"), words)
        pairs = [letter + "a" for letter in letters] + [letter + "b" for letter in letters]
        more = stops | Stop(*pairs[:20]) | Stop(*pairs[20:40]) | Stop(*pairs[40:])
        words += [word + "ca" for word in words if len(word) < 9]
        self.kinds(4, more | Stem("a", "ca"), stops | Stem("a"), words)
        self.kinds(4, more | Stem("a", "ba"), stops | Stem("a"), words)
        long = Chain(Stop(*pairs[26:46]), Stop(*pairs[46:]))
        self.kinds(3, long | Stem("a"), long, words)
        self.kinds(3, long | Stem("a", "b", "ca"), long | Stem("ab", "c"), words)

    def test_very_many_words_in_steps(self):
        lots = ["".join(letters) for letters in itertools.product("abcd", "abcde", "abcdefgh")]
        one = Chain(*[Stop(*lots[k:k + 20]) for k in range(0, 80, 20)], Stem("s", "es"), Stop(*lots[80:100]))
        other = Chain(Stem(*"abcdefgh"), *[Drop(*lots[k:k + 20]) for k in range(60, 160, 20)])
        answer = kinds(one, other)
        words = lots + [word + "s" for word in lots] + [word[:2] for word in lots] + LONG_WORDS
        self.complete(answer, one, other, words)

    def test_one_word_for_all_words_of_a_kind(self):
        # If a word of a text is replaced by another one of its kind, the same quotes are found.
        dice = random.Random(43)
        for _ in range(40):
            writer, asker = models.some_pair(dice)
            known = kinds(writer, asker)
            words = models.some_text(dice, 8).split(" ")
            alike = [
                [other for other in list(known) + list("abcdefgh") if word and like(writer, asker, word, other)]
                for word in words]
            text = " ".join(dice.choice(others) for others in alike if others)
            self.same(list(missed(writer, asker, text)), list(missed(writer, asker, " ".join(words))))

    def test_many_chains(self):
        dice = random.Random(44)
        most = 0
        for _ in range(60):
            one = stemming_chain(dice)
            other = one if dice.random() < 0.2 else stemming_chain(dice)
            answer = kinds(one, other)
            most = max(most, len(answer))
            self.complete(answer, one, other, dice.sample(SOME_WORDS, 300) + LONG_WORDS)
            self.same([kinds(one, other), len(kinds(other, one))], [answer, len(answer)])
            for word in dice.sample(SOME_WORDS, 5):
                self.same([like(one, other, word, known) for known in answer].count(True), 1)
                self.same(
                    [like(one, other, word, known) for known in answer],
                    [models.like(one, other, word, known) for known in answer])
        self.assertGreater(most, 15)


def stemming_chain(dice):
    """A chain whose steps and rules meet in few short words."""
    def some(longest):
        return "".join(dice.choice("abs") for _ in range(dice.randint(1, longest)))

    while True:
        steps = []
        for _ in range(dice.randint(0, 4)):
            steps.append(dice.choice([
                Stop(*[some(4) for _ in range(3)]), Drop(*[some(4) for _ in range(2)]),
                Swap.of({some(4): some(4) for _ in range(3)}),
                Stem(*[some(4) for _ in range(dice.randint(1, 4))], keep=[some(5) for _ in range(2)]),
            ]))
        if dice.random() < 0.6:
            steps.append(Same(*[f"{some(3)} = {some(4)}" for _ in range(dice.randint(1, 3))]))
        try:
            return Chain(*steps)
        except ValueError:
            continue


if __name__ == "__main__":
    unittest.main()
