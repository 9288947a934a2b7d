import itertools
import random
import unittest

from quotehome.books import Book
from quotehome.chains import Chain
from quotehome.errors import InvalidText
from quotehome.phrases import hit_places
from quotehome.rewordings import rewordings
from quotehome.rules import Same
from quotehome.steps import Drop, Stem, Stop, Swap
from tests import models
from tests.helper import Case, any_values

X = Chain(Same("a b = p q r"))


def model(chain, quote):
    """The rewordings, straight from the words of the document."""
    words = quote.split(" ") if quote else []
    graph = chain(quote)
    sets = [set(block.sides) for block in graph]
    found = []
    for block in graph:
        met = tuple(chain.result(word) for word in words[block.first:block.last + 1])
        written = chain.steps[-1].rules if chain.rules else ()
        for rule in written:
            entries = [tuple(chain.result(word) for word in side) for side in rule]
            for number, side in enumerate(rule):
                if met in entries and entries[number] != met and entries.index(entries[number]) == number:
                    text = " ".join(words[:block.first] + list(side) + words[block.last + 1:])
                    if [set(other.sides) for other in chain(text)] == sets and text not in found and text != quote:
                        found.append(text)
    return found


class RewordingsTest(Case):
    def reworded(self, texts, chain, quote):
        self.gives(texts, rewordings, chain=chain, quote=quote)
        self.same(model(chain, quote), texts)

    def test_one_block(self):
        self.reworded(["p q r"], X, "a b")
        self.reworded(["a b"], X, "p q r")
        self.reworded(["x p q r y"], X, "x a b y")

    def test_blocks_without_a_met_side(self):
        self.reworded([], X, "x a c b p q")
        self.reworded([], X, "")
        self.reworded([], Chain(), "a b")
        self.reworded([], Chain(Stop("on"), Drop("off")), "on off a")

    def test_several_blocks_rules_and_sides(self):
        chain = Chain(Same("a = b = c", "a = d e"))
        self.reworded([], chain, "a")
        self.reworded(["a", "c"], Chain(Same("a = b = c")), "b")
        self.reworded(["b b", "c b", "a a", "a c"], Chain(Same("a = b = c")), "a b")
        self.reworded(["y c b", "x c a"], Chain(Same("x = y", "a = b")), "x c b")
        self.reworded(["d e x", "b x"], Chain(Same("a = d e", "b = a = d e")), "a x")

    def test_rules_that_share_sides(self):
        chain = Chain(Same("a = b", "b = c", "a = c"))
        self.reworded(["b", "c"], chain, "a")
        self.reworded(["a", "c"], chain, "b")
        shared = Chain(Same("a = b = c", "c = b = d"))
        self.same(set(shared("b")[0].sides), {("a",), ("b",), ("c",), ("d",)})
        self.reworded(["c"], shared, "b")
        self.reworded([], shared, "a")

    def test_sides_that_become_one(self):
        chain = Chain(Stem("s"), Same("cats = dog = dogs = cat"))
        self.reworded(["dog"], chain, "cats")
        self.reworded(["dog"], chain, "cat")
        self.reworded(["cats"], chain, "dogs")
        self.reworded([], Chain(Swap(b="a"), Same("a = b")), "a")

    def test_sides_of_unlike_rules_give_their_own_words(self):
        chain = Chain(Stem("s"), Same("ab = cats", "cat = ab"))
        self.reworded(["x cats", "x cat"], chain, "x ab")
        self.reworded(["ab"], chain, "cats")

    def test_words_as_written(self):
        chain = Chain(Swap(mice="mouse"), Stop("the", "of"), Same("mice of iron = tank"))
        self.reworded(["x mice of iron"], chain, "x tank")
        self.reworded(["tank"], chain, "mouse the iron")

    def test_words_that_are_not_kept(self):
        chain = Chain(Same("a b = p q r", "c = p q r", keep=False))
        self.reworded([], chain, "a b")
        self.reworded([], chain, "p q r")
        self.reworded([], chain, "c")
        both = Chain(Same("a b = p q r", keep=False))
        self.reworded(["x p q r"], both, "x a b")
        self.reworded(["a b x"], both, "p q r x")

    def test_a_side_that_would_be_met_otherwise_beside_its_neighbours(self):
        self.reworded(["c p"], Chain(Same("a = p", "p q = z")), "c a")
        self.reworded([], Chain(Same("a = p", "p q = z")), "a q")
        self.reworded(["p p q", "a z"], Chain(Same("a = p", "p q = z")), "a p q")
        self.reworded([], Chain(Same("a = p", "x p = z")), "x a")
        self.reworded([], Chain(Same("a = p q", "x y p = z")), "x y a")
        self.reworded(["x p q"], Chain(Same("a = p q", "x y p = z")), "x a")

    def test_blocks_that_change_their_bounds_and_keep_their_sides(self):
        # The words are parted otherwise, but the sets of sides are the same, one by one.
        chain = Chain(Same("a = a a", "b = c"))
        self.reworded(["a a b", "a c"], chain, "a b")
        self.reworded(["a a a a"], chain, "a a a")
        self.reworded(["a a a"], chain, "a a a a")

    def test_the_same_sets_and_more_or_fewer_blocks(self):
        # "u b a" is parted into "u b" and "a", and "u b a a" into one block more.
        self.reworded(["u b c", "u b a", "u a"], Chain(Same("u = u b", "c = b a = a")), "u c")
        self.reworded(["u b c", "u a"], Chain(Same("u = u b", "c = b a a = a")), "u c")
        self.reworded(["a a a a x"], Chain(Same("a = a a")), "a a a x")

    def test_texts_that_come_twice(self):
        self.reworded(["b"], Chain(Same("a = b", "b = a")), "a")
        chain = Chain(Same("a = b", "a = b", "b = a"))
        self.reworded(["b a", "a b"], chain, "a a")

    def test_two_generators_by_turns(self):
        chain = Chain(Same("a = b = c"))
        one, other = rewordings(chain, "a"), rewordings(chain, "b x")
        self.same([next(one), next(other), next(one), next(other)], ["b", "a x", "c", "c x"])
        self.same([list(one), list(other)], [[], []])

    def test_wrong_texts(self):
        for text, index in [(" ", 0), ("a ", 1), ("a  b", 1), ("a b C", 2), ("abcdefghijk", 0)]:
            self.fails_in_all_ways(InvalidText, [index], rewordings, chain=X, quote=text)
        for value in any_values():
            if not isinstance(value, str):
                self.fails_in_all_ways(InvalidText, [0], rewordings, chain=X, quote=value)

    def test_long_quotes(self):
        self.same(list(rewordings(X, " ".join(["c"] * 1998 + ["a", "b"]))), [" ".join(["c"] * 1998 + ["p", "q", "r"])])
        texts = list(itertools.islice(rewordings(Chain(Same("a = b")), " ".join(["a"] * 2000)), 1500))
        self.same([len(texts), texts[1499].index("b")], [1500, 2998])

    def test_the_example(self):
        book = Book(Chain(Same("a b = p q r")))
        self.same(list(rewordings(book.chain, "x a b")), ["x p q r"])

    def test_many_chains(self):
        dice = random.Random(14)
        many = 0
        for _ in range(600):
            chain = models.some_chain(dice, letters="abcde")
            quote = models.some_text(dice, 6, "abcdef")
            texts = model(chain, quote)
            self.same(list(rewordings(chain, quote)), texts)
            written = chain(models.some_text(dice, 8, "abcde"))
            for text in texts:
                many += 1
                self.same(hit_places(chain(text), written), hit_places(chain(quote), written))
        self.assertGreater(many, 200)


if __name__ == "__main__":
    unittest.main()
