import random
import unittest

from quotehome.chains import Chain
from quotehome.phrases import hit_places
from quotehome.rules import Same
from quotehome.steps import Drop, Stop
from tests import models
from tests.helper import Case

X = Chain(Same("a b = p q r"))
# Each of its blocks has two sides, so a text of n words has 2 ** n ways.
TWO = Chain(Same("a = b"))
HOLES = Chain(Stop("on", "off"))


def run(word, many):
    return " ".join([word] * many)


class HitPlacesTest(Case):
    def hits(self, places, asked, written):
        self.gives(places, hit_places, asked=asked, written=written)

    def test_words_of_plain_graphs(self):
        self.hits([0, 2], Chain()("a"), Chain()("a b a"))
        self.hits([1], Chain()("b a"), Chain()("a b a"))
        self.hits([], Chain()("b b"), Chain()("a b a"))
        self.hits([0, 1, 2], Chain()("a a"), Chain()("a a a a"))
        self.hits([], Chain()("a a"), Chain()("a"))

    def test_each_hit_place_once_and_ascending(self):
        self.hits([0], X("a b"), X("a b"))
        self.hits([0, 1, 2], TWO("a"), TWO("b a b"))
        self.hits([0, 1, 2], Chain()("a"), Chain(Same("a = a a a"))("a"))
        self.hits([0, 1, 2, 3, 4, 5], Chain(Same("a = a a"))("a"), Chain(Same("a = a a a"))("a a"))
        self.hits([0, 10], Chain()("b"), Chain()("b" + " a" * 9 + " b"))

    def test_tokens_of_unlike_ways_and_lengths(self):
        self.hits([1], Chain()("q r c"), X("a b c"))
        self.hits([1], Chain()("b r"), X("a b c"))
        self.hits([0], Chain()("a q"), X("a b c"))
        self.hits([], Chain()("b c"), X("a b c"))
        self.hits([], Chain()("q b"), X("a b c"))

    def test_graphs_by_equal_and_by_other_chains(self):
        self.hits([1], X("p q r"), X("c a b c"))
        self.hits([0], X("a b"), Chain()("p q r"))
        self.hits([3], X("p q r"), Chain()("c c c a b c"))
        self.hits([], X("a b c"), Chain()("a b p q r"))
        self.hits([0], Chain(Same("cat = auto"))("cat"), Chain(Same("auto = wagon"))("wagon"))

    def test_a_way_without_words_stands_nowhere(self):
        for asked in [Chain()(""), HOLES("on"), HOLES("on off"), Chain(Drop("a"))("a a")]:
            for written in [Chain()(""), Chain()("a b"), HOLES("on a"), X("a b")]:
                self.hits([], asked, written)

    def test_nothing_is_hit_in_a_graph_without_tokens(self):
        for written in [Chain()(""), HOLES("on"), Chain(Drop("a"))("a")]:
            for asked in [Chain()("a"), HOLES("on a"), TWO("a b")]:
                self.hits([], asked, written)

    def test_holes_at_the_beginning_stand_below_the_first_place(self):
        self.hits([0], HOLES("on a"), Chain()("a"))
        self.hits([0, 1], HOLES("on on off a"), Chain()("a a"))
        self.hits([0], HOLES("on a b"), Chain()("a b"))
        self.hits([2], HOLES("on a"), HOLES("on on a"))

    def test_holes_inside_and_at_the_end(self):
        self.hits([1], HOLES("a on b"), Chain()("a a c b"))
        self.hits([0], HOLES("a on b"), HOLES("a off b"))
        self.hits([], HOLES("a on b"), Chain()("a b"))
        self.hits([1], HOLES("b on on"), Chain()("a b"))
        self.hits([1], HOLES("on b on"), Chain()("a b"))

    def test_holes_of_sides(self):
        bank = Chain(Stop("of"), Same("bank of england = boe"))
        self.hits([0], bank("boe"), Chain()("bank the england"))
        self.hits([0], bank("bank of england x"), Chain()("bank of england x"))
        self.hits([2], bank("boe x"), Chain()("a b bank c england x"))
        self.hits([], bank("boe x"), Chain()("bank england x"))
        self.hits([0], bank("boe x"), Chain()("boe x"))

    def test_nothing_counts_no_place(self):
        self.hits([0], Chain(Drop("on"))("a on b"), Chain()("a b"))
        self.hits([], Chain()("a on b"), Chain(Drop("on"))("a on b"))
        self.hits([0], Chain(Drop("on"), Stop("off"))("on off a on on b on"), Chain()("a b"))

    def test_sides_of_unlike_lengths(self):
        asker = Chain(Same("a b = c"))
        self.hits([0, 4], asker("c x"), Chain()("a b x x c x"))
        self.hits([1], asker("x c x"), Chain()("a x c x"))
        self.hits([0], asker("x c x"), Chain()("x a b x"))

    def test_graphs_with_very_many_ways(self):
        self.hits([0], TWO(run("a", 60)), TWO(run("b", 60)))
        self.hits([0, 1, 2], TWO(run("a", 58)), TWO(run("b", 60)))
        self.hits([], TWO(run("a", 60) + " c"), TWO(run("b", 60)))
        self.hits([], TWO("c " + run("a", 60)), TWO(run("b", 60) + " d"))
        self.hits([], TWO(run("a", 61)), TWO(run("b", 60)))
        wide = Chain(Same("a = b c = d e f = g h i j"))
        self.hits([0], wide(run("a", 40)), wide(run("a", 40)))
        self.hits([], wide(run("a", 40) + " k"), wide(run("a", 30) + " c"))

    def test_long_graphs(self):
        self.hits([0], TWO(run("a", 500)), TWO(run("a", 500)))
        self.hits(list(range(501)), TWO(run("a", 500)), TWO(run("a", 1000)))
        self.hits([], TWO(run("a", 1999) + " c"), TWO(run("a", 2000)))
        self.hits([1999], Chain()("c"), Chain()(run("a", 1999) + " c"))

    def test_a_graph_stands_in_itself(self):
        dice = random.Random(11)
        for _ in range(60):
            chain = models.some_chain(dice)
            text = models.some_text(dice, 12)
            graph = chain(text)
            if graph.tokens:
                self.assertIn(graph.tokens[0][0], hit_places(graph, graph))

    def test_the_model(self):
        dice = random.Random(12)
        for _ in range(150):
            writer, asker = models.some_pair(dice)
            letters = dice.choice(["abcdefg", "abc", "abe"])
            asked, written = asker(models.some_text(dice, 4, letters)), writer(models.some_text(dice, 6, letters))
            self.same(hit_places(asked, written), sorted(models.hits(asked, written)))


if __name__ == "__main__":
    unittest.main()
