import itertools
import random
import unittest

from quotehome.begun import beginnings, begun
from quotehome.chains import Chain
from quotehome.errors import InvalidText, NoWord
from quotehome.rules import Same
from quotehome.steps import Drop, Stem, Stop, Swap
from tests import models
from tests.helper import Case, any_values

X = Chain(Same("a b = p q r"))
BANK = Chain(Stop("of", "the"), Same("bank of england = boe"))


class BeginningsTest(Case):
    def starts(self, answer, chain):
        self.gives(answer, beginnings, chain=chain)

    def test_no_rules(self):
        for chain in [Chain(), Chain(Stop("on"), Drop("off"), Stem("s"))]:
            self.starts(((),), chain)

    def test_sides_of_one_word(self):
        self.starts(((),), Chain(Same("a = b", "b = c = d")))
        self.starts(((), ("c",)), Chain(Same("a = b", "b = c d")))

    def test_sides_of_several_words(self):
        self.starts(((), ("a",), ("p",), ("p", "q")), X)
        self.starts(((), ("a",), ("a", "b"), ("a", "b", "c")), Chain(Same("a b c d = e")))
        self.starts(((), ("a",), ("p",), ("p", "q")), Chain(Same("a b = p q r", keep=False)))

    def test_sides_that_begin_one_another(self):
        self.starts(((), ("a",), ("a", "b")), Chain(Same("a b = a b c = a")))
        self.starts(((), ("a",), ("a", "a"), ("b",)), Chain(Same("a a a = a", "a a = b a")))

    def test_sides_with_holes_inside(self):
        self.starts(((), ("bank",), ("bank", "*")), BANK)
        self.starts(((), ("a",), ("a", "*"), ("a", "*", "*")), Chain(Stop("b", "c"), Same("a b c d = e")))

    def test_sides_that_become_one(self):
        chain = Chain(Swap(x="a"), Stem("s"), Same("a cats d = x cat d = x cats d", "y = z"))
        self.starts(((), ("a",), ("a", "cat")), chain)
        self.starts(((), ("a",)), Chain(Stop("b"), Swap(x="a"), Same("a c = x c")))


class BegunTest(Case):
    def begun(self, answers, chain, text):
        """What is begun ahead of each word and behind the last one."""
        for first, answer in enumerate(answers):
            self.gives(answer, begun, chain=chain, text=text, first=first)
        many = len(text.split(" ")) if text else 0
        self.same(len(answers), many + 1)
        self.fails_in_all_ways(NoWord, [many + 1], begun, chain=chain, text=text, first=many + 1)

    def test_each_number(self):
        self.begun([()], X, "")
        self.begun([(), ("a",), (), ()], X, "a b c")
        self.begun([(), (), ("p",), ("p", "q"), ("a",)], X, "c p q a")
        self.begun([(), ("p",), ("p", "q"), (), ("p",), ("p",), ("p", "q")], X, "p q r p p q")
        self.begun([(), ("a",), ("a",), ("a",)], X, "a a a")

    def test_no_rules(self):
        self.begun([(), (), (), ()], Chain(), "a b a")
        self.begun([(), (), ()], Chain(Same("a = b")), "a b")

    def test_a_longer_side_waits(self):
        chain = Chain(Same("a b = c", "a b c d = e"))
        self.begun([(), ("a",), ("a", "b"), ("a", "b", "c"), ()], chain, "a b c d")
        self.begun([(), ("a",), ("a", "b"), ("a", "b", "c"), ("a",)], chain, "a b c a")
        self.begun([(), ("a",), ("a", "b"), ()], chain, "a b e")

    def test_what_is_left_behind_a_shorter_side(self):
        chain = Chain(Same("a a b = c", "a b b = d"))
        self.begun([(), ("a",), ("a", "a"), ("a", "a"), ()], chain, "a a a b")
        self.begun([(), ("a",), ("a", "b"), ("a",), ("a", "a")], chain, "a b a a")

    def test_holes_and_nothing(self):
        self.begun([(), ("bank",), ("bank", "*"), ()], BANK, "bank the england")
        self.begun([(), ("bank",), ("bank", "*"), (), ("bank",)], BANK, "bank of the bank")
        self.begun([(), (), ()], BANK, "of england")
        drop = Chain(Drop("on"), Same("a = b"))
        self.begun([(), (), (), ()], drop, "on a on")

    def test_words_with_these_results(self):
        self.begun([(), ("cat",), ()], Chain(Stem("s"), Same("cat dog = pet")), "cats dogs")

    def test_long_texts(self):
        text = " ".join(["a"] * 2000)
        self.same(begun(X, text, 2000), ("a",))
        self.same(begun(X, text, 1), ("a",))
        self.same(begun(Chain(Same("a a = b")), text, 1999), ("a",))
        self.same(begun(Chain(Same("a a = b")), text, 2000), ())

    def test_the_example(self):
        self.same(
            [beginnings(X), begun(X, "c p q a", 3), begun(X, "c p q a", 4)],
            [((), ("a",), ("p",), ("p", "q")), ("p", "q"), ("a",)])

    def test_wrong_texts(self):
        for text, index in [(" ", 0), ("a ", 1), ("a  b", 1), ("a b C", 2), ("abcdefghijk", 0)]:
            self.fails_in_all_ways(InvalidText, [index], begun, chain=X, text=text, first=0)
        for value in any_values():
            self.fails_in_all_ways(InvalidText, [1], begun, chain=X, text="a ", first=value)
            if not isinstance(value, str):
                self.fails_in_all_ways(InvalidText, [0], begun, chain=X, text=value, first=None)

    def test_wrong_numbers(self):
        for value in any_values() + [3, -1, "0", "1"]:
            if value is True or value is False or value not in (0, 1, 2):
                self.fails_in_all_ways(NoWord, [value], begun, chain=X, text="a b", first=value)


class ModelTest(Case):
    def test_it_is_a_beginning_and_what_is_left_of_the_decided_blocks(self):
        dice = random.Random(51)
        for _ in range(100):
            chain = models.some_chain(dice, most_words=4)
            text = models.some_text(dice, 9, dice.choice(["abcdefg", "abc"]))
            words = text.split(" ") if text else []
            for first in range(len(words) + 1):
                blocks = models.decided(chain, words[:first])
                behind = blocks[-1].last + 1 if blocks else 0
                answer = begun(chain, text, first)
                self.same(answer, tuple(chain.result(word) for word in words[behind:first]))
                self.assertIn(answer, beginnings(chain))

    def test_decided_blocks_are_those_that_stay_whatever_follows(self):
        dice = random.Random(52)
        for _ in range(25):
            chain = models.some_chain(dice, letters="abc", rules=2)
            words = models.some_text(dice, 5, "abcde").split(" ")
            words = words if words != [""] else []
            ahead = [
                [told(block) for block in chain(" ".join(words + list(more)))]
                for many in range(4) for more in itertools.product("abcde", repeat=many)]
            same = 0
            while same < min(len(rows) for rows in ahead) and all(rows[same] == ahead[0][same] for rows in ahead):
                same += 1
            blocks = models.decided(chain, words)
            self.same(len(blocks), same)
            behind = blocks[-1].last + 1 if blocks else 0
            self.same(begun(chain, " ".join(words), len(words)), tuple(chain.result(word) for word in words[behind:]))

    def test_just_this_is_begun_behind_words_with_these_results(self):
        dice = random.Random(53)
        for _ in range(60):
            chain = models.some_chain(dice, most_words=4)
            for start in beginnings(chain):
                words = [next(word for word in "abcdefg" if chain.result(word) == entry) for entry in start]
                self.same(begun(chain, " ".join(words), len(words)), start)


def told(block):
    return (block.first, block.last, block.place, block.sides, block.is_own)


if __name__ == "__main__":
    unittest.main()
