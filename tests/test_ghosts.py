import itertools
import random
import unittest

from quotehome.chains import Chain
from quotehome.ghosts import ghost_of, ghosts
from quotehome.kinds import kinds
from quotehome.rules import Same
from quotehome.steps import Drop, Stem, Stop, Swap
from tests import models
from tests.helper import Case

X = Chain(Same("a b = p q r"))


def placed_ways(graph):
    """All ways of a graph, each the list of its entries with their places."""
    choices = [
        [[(block.place + index, entry) for index, entry in enumerate(side)] for side in block.sides]
        for block in graph if block.sides]
    return [[entry for side in way for entry in side] for way in itertools.product(*choices)]


def runs_of(ways, many):
    """The runs of so many words that ways have."""
    found = set()
    for way in ways:
        for start in range(len(way) - many + 1):
            part = way[start:start + many]
            place = part[0][0]
            if all(spot == (place + index, spot[1]) and spot[1] != "*" for index, spot in enumerate(part)):
                found.add((place, tuple(entry for _, entry in part)))
    return found


def told_ghosts(graph):
    """A second model of ghosts: all runs of the tokens, held against all ways."""
    ways = placed_ways(graph)
    at = {}
    for place, word, _, _ in graph.tokens:
        at.setdefault(place, set()).add(word)
    found = []
    for place in sorted(at):
        for many in range(2, 7):
            spots = [sorted(at.get(place + index, ())) for index in range(many)]
            whole, shorter = runs_of(ways, many), runs_of(ways, many - 1)
            for words in itertools.product(*spots):
                if (place, words) not in whole and (place, words[:-1]) in shorter and (place + 1, words[1:]) in shorter:
                    found.append((place, words))
    return sorted(set(found))


class GhostsTest(Case):
    def test_against_all_ways(self):
        dice = random.Random(101)
        seen = 0
        for _ in range(300):
            chain = models.some_chain(dice, letters=dice.choice(["abc", "abce", "abcde"]), most_words=4, rules=3)
            text = models.some_text(dice, 6, "abcdez")
            graph = chain(text)
            if len(list(graph.ways())) < 300:
                answer = told_ghosts(graph)
                seen += len(answer) > 0
                self.gives(answer, ghosts, graph=graph)
        self.assertGreater(seen, 20)

    def test_holes_inside_of_sides(self):
        chain = Chain(Stop("o", "u"), Same("a o b = c u d", "a o o b = c d e f"))
        self.gives([], ghosts, graph=chain("a o b"))
        self.gives([], ghosts, graph=chain("c u d"))
        self.gives([(0, ("a", "d")), (2, ("e", "b"))], ghosts, graph=chain("a u u b"))
        chain = Chain(Stop("o"), Same("a b o c = d e o f"))
        self.gives([(0, ("a", "e")), (0, ("d", "b"))], ghosts, graph=chain("a b o c"))

    def test_sides_of_one_to_four_words(self):
        chain = Chain(Same("a = b c = d e f = g h i j"))
        for text in ["a", "b c", "d e f", "g h i j"]:
            self.gives([
                (0, ("a", "c")), (0, ("a", "e")), (0, ("a", "h")), (0, ("b", "e")), (0, ("b", "h")), (0, ("d", "c")),
                (0, ("d", "h")), (0, ("g", "c")), (0, ("g", "e")), (1, ("c", "f")), (1, ("c", "i")), (1, ("e", "i")),
                (1, ("h", "f")), (2, ("f", "j"))], ghosts, graph=chain(text))

    def test_longer_ghosts(self):
        chain = Chain(Same("a y z b = c y z d"))
        self.gives([(2, ("a", "y", "z", "d")), (2, ("c", "y", "z", "b"))], ghosts, graph=chain("x x a y z b"))
        chain = Chain(Same("a y b = c y d"))
        self.gives([(0, ("a", "y", "d")), (0, ("c", "y", "b")), (3, ("a", "y", "d")), (3, ("c", "y", "b"))], ghosts,
                   graph=chain("a y b c y d"))

    def test_words_that_are_not_kept(self):
        chain = Chain(Same("c d = a b", "e f = a b", keep=False))
        self.gives([(0, ("c", "f")), (0, ("e", "d"))], ghosts, graph=chain("a b"))
        self.gives([], ghosts, graph=chain("c d"))
        self.gives([], ghosts, graph=Chain(Same("a b = c d", keep=False))("a b c d"))

    def test_sides_that_become_equal(self):
        chain = Chain(Swap(c="a", d="b"), Same("a b = c d"))
        self.gives([], ghosts, graph=chain("a b"))
        chain = Chain(Stem("s"), Same("as bbs = as bb = cc dd"))
        self.gives([(0, ("as", "dd")), (0, ("cc", "bb"))], ghosts, graph=chain("as bb"))

    def test_over_blocks(self):
        # What goes over the end of the longest side is had by a way.
        self.gives([(0, ("a", "q")), (0, ("p", "b")), (1, ("b", "r"))], ghosts, graph=X("a b c"))
        self.gives([], ghosts, graph=Chain(Same("a = b", "c = d"))("a c a"))
        self.gives([], ghosts, graph=Chain()("a b c"))
        self.gives([], ghosts, graph=X(""))

    def test_the_list_belongs_to_the_caller(self):
        graph = X("a b")
        ghosts(graph).clear()
        self.same(len(ghosts(graph)), 3)

    def test_a_long_text(self):
        told = ghosts(X(" ".join(["a b"] * 1000)))
        self.same([len(told), told[-1]], [3000, (2998, ("b", "r"))])


class GhostOfTest(Case):
    def check(self, chain, most=4):
        """None exactly if no text has a graph with a ghost; otherwise a text of the fewest words with one of them."""
        answer = ghost_of(chain)
        least = None
        known = [word for word in kinds(chain, chain)]
        for many, text in models.few_words(known, most, 3000):
            if told_ghosts(chain(text)):
                least = many
                break
        if answer is None:
            self.same(least, None)
        else:
            text, place, words = answer
            self.same([type(text), type(place), type(words)], [str, int, tuple])
            self.same(len(text.split(" ")), least)
            self.assertIn((place, words), told_ghosts(chain(text)))
        self.gives(answer, ghost_of, chain=chain)
        self.same(ghost_of(Chain.read(str(chain))), answer)

    def test_many_chains(self):
        dice = random.Random(102)
        for _ in range(60):
            self.check(models.some_chain(dice, letters="abe", most_words=3, rules=2))

    def test_some_chains(self):
        for chain in [
                Chain(), X, Chain(Same("car = auto")), Chain(Same("a y b = c y d")), 
                Chain(Same("a b c d = e f", "g h i = j")),
                Chain(Drop("o"), Same("a = b")), Chain(Same("a b = c d", keep=False)),
                Chain(Same("c d = a b", "e f = a b", keep=False)), Chain(Stop("o"), Same("a o b = c o d")),
                Chain(Swap(c="a", d="b"), Same("a b = c d")), Chain(Stem("s"), Same("aas bbs = ccs d"))]:
            self.check(chain)
        self.same(ghost_of(Chain(Same("a b = p q r")))[0], "a b")

    def test_chains_without_ghosts(self):
        for chain in [
                Chain(), Chain(Same("a = b")), Chain(Same("a = b = c", "c = d")),
                Chain(Stop("o", "u"), Same("a o b = c u d"))]:
            self.gives(None, ghost_of, chain=chain)

    def test_ghosts_belong_to_one_block(self):
        dice = random.Random(103)
        for _ in range(80):
            chain = models.some_chain(dice, letters="abc", most_words=3, rules=2)
            graph = chain(models.some_text(dice, 6, "abcz"))
            for place, words in ghosts(graph):
                self.assertTrue(any(
                    block.place <= place and place + len(words) <= block.place + block.width for block in graph))


class ExamplesTest(Case):
    def test_the_examples(self):
        chain = Chain(Same("a b = p q r", "car = auto"))
        self.same(
            [ghosts(chain("a b")), ghost_of(Chain(Same("car = auto"))), ghosts(Chain(Same("a y b = c y d"))("a y b"))],
            [[(0, ("a", "q")), (0, ("p", "b")), (1, ("b", "r"))], None,
             [(0, ("a", "y", "d")), (0, ("c", "y", "b"))]])


if __name__ == "__main__":
    unittest.main()
