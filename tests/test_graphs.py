import itertools
import random
import unittest

from quotehome.blocks import Block
from quotehome.chains import Chain
from quotehome.charts import chart
from quotehome.errors import NoBlock
from quotehome.graphs import Graph
from quotehome.rules import Same
from quotehome.steps import Drop, Stem, Stop, Swap
from tests.helper import Case, any_values

X = Chain(Same("a b = p q r"))
# Each of its blocks has two sides, so a text of n words has 2 ** n ways.
TWO = Chain(Same("a = b"))


def blocks(chain, text):
    """The attributes of all blocks of a text's graph."""
    graph = chain(text)
    return [told(graph[number]) for number in range(len(graph))]


def told(block):
    return (block.first, block.last, block.place, block.width, block.sides, block.is_own)


def own(first, place, entry):
    """A block of one word without a met side."""
    return (first, first, place, 1, ((entry,),), True)


class BlocksTest(Case):
    def test_words_without_rules(self):
        self.same(blocks(Chain(), "b a b"), [own(0, 0, "b"), own(1, 1, "a"), own(2, 2, "b")])
        self.same(blocks(Chain(), ""), [])
        self.same(blocks(Chain(Stem("s")), "cats as"), [own(0, 0, "cat"), own(1, 1, "as")])

    def test_holes_and_nothing(self):
        self.same(blocks(Chain(Stop("on")), "on a on"), [own(0, 0, "*"), own(1, 1, "a"), own(2, 2, "*")])
        nothing = (0, 0, 0, 0, (), False)
        self.same(blocks(Chain(Drop("on")), "on"), [nothing])
        self.same(
            blocks(Chain(Drop("on"), Stop("x")), "on x on on a"),
            [nothing, own(1, 0, "*"), (2, 2, 1, 0, (), False), (3, 3, 1, 0, (), False), own(4, 1, "a")])

    def test_a_met_side(self):
        first = (0, 1, 0, 3, (("a", "b"), ("p", "q", "r")), True)
        self.same(blocks(X, "a b c"), [first, own(2, 3, "c")])
        self.same(blocks(X, "a b"), [first])
        self.same(blocks(X, "c p q r a"), [
            own(0, 0, "c"), (1, 3, 1, 3, (("p", "q", "r"), ("a", "b")), True), own(4, 4, "a")])
        self.same(blocks(X, "a a b b"), [
            own(0, 0, "a"), (1, 2, 1, 3, (("a", "b"), ("p", "q", "r")), True), own(3, 4, "b")])
        self.same(blocks(X, "p q a"), [own(0, 0, "p"), own(1, 1, "q"), own(2, 2, "a")])

    def test_longer_sides_go_first(self):
        chain = Chain(Same("a = x", "a b c = y", "a b = z", "b = w"))
        self.same([block[4] for block in blocks(chain, "a b c a b d a c")], [
            (("a", "b", "c"), ("y",)), (("a", "b"), ("z",)), (("d",),), (("a",), ("x",)), (("c",),)])
        chain = Chain(Same("a = a b = a b c = a b c d"))
        self.same([block[:2] for block in blocks(chain, "a b c a b c d a a b")], [(0, 2), (3, 6), (7, 7), (8, 9)])

    def test_blocks_are_parted_from_the_left(self):
        chain = Chain(Same("a b = x", "b c = y", "b c d = z"))
        self.same([block[:2] for block in blocks(chain, "a b c d b c d")], [(0, 1), (2, 2), (3, 3), (4, 6)])

    def test_the_order_of_sides_for_kept_words(self):
        chain = Chain(Same("z = a = b", "c = d", "y = b = a = x", "b = z"))
        self.same(blocks(chain, "a")[0][4:], ((("a",), ("z",), ("b",), ("y",), ("x",)), True))
        self.same(blocks(chain, "b")[0][4:], ((("b",), ("z",), ("a",), ("y",), ("x",)), True))
        self.same(blocks(chain, "z")[0][4:], ((("z",), ("a",), ("b",)), True))
        self.same(blocks(chain, "d")[0][4:], ((("d",), ("c",)), True))

    def test_the_order_of_sides_for_words_that_are_not_kept(self):
        chain = Chain(Same("z = a = b", "c = d", "a = y", "y = b = a", "z = y = a", keep=False))
        self.same(blocks(chain, "a")[0][4:], ((("a",), ("z",), ("y",)), True))
        self.same(blocks(chain, "b")[0][4:], ((("z",), ("y",)), False))
        self.same(blocks(chain, "z")[0][4:], ((("z",),), True))
        self.same(blocks(chain, "y")[0][4:], ((("y",), ("a",), ("z",)), True))
        self.same(blocks(chain, "d"), [(0, 0, 0, 1, (("c",),), False)])
        self.same(blocks(chain, "c"), [(0, 0, 0, 1, (("c",),), True)])
        self.same(blocks(chain, "x"), [own(0, 0, "x")])

    def test_widths(self):
        chain = Chain(Same("a b c d = e", "f = e = g h", keep=False))
        self.same([block[3] for block in blocks(chain, "e a b c d f g h x")], [4, 4, 1, 1, 1])
        self.same([block[2] for block in blocks(chain, "e a b c d f g h x")], [0, 4, 8, 9, 10])
        self.same([block[3] for block in blocks(Chain(Same("a b c d = e")), "e a b c d")], [4, 4])

    def test_rules_that_are_left_with_one_side(self):
        for keep in [True, False]:
            chain = Chain(Swap(c="b"), Same("a b = a c", keep=keep))
            self.same(blocks(chain, "a c b a b"), [
                (0, 1, 0, 2, (("a", "b"),), True), own(2, 2, "b"), (3, 4, 3, 2, (("a", "b"),), True)])

    def test_a_hole_of_a_side_meets_any_hole(self):
        chain = Chain(Stop("of", "the"), Same("bank of england = boe"))
        met = (("bank", "*", "england"), ("boe",))
        self.same(blocks(chain, "bank the england"), [(0, 2, 0, 3, met, True)])
        self.same(blocks(chain, "bank of england x"), [(0, 2, 0, 3, met, True), own(3, 3, "x")])
        self.same([block[4] for block in blocks(chain, "the bank england")], [(("*",),), (("bank",),), (("england",),)])
        self.same(blocks(chain, "bank x england")[0], own(0, 0, "bank"))
        self.same(blocks(chain, "boe"), [(0, 0, 0, 3, (("boe",), ("bank", "*", "england")), True)])

    def test_words_with_the_results_of_a_side(self):
        chain = Chain(Swap(x="a"), Stem("s"), Same("aas b = c"))
        self.same([block[4] for block in blocks(chain, "aas b aa b x b")], [
            (("aa", "b"), ("c",)), (("aa", "b"), ("c",)), (("a",),), (("b",),)])

    def test_nothing_stands_outside_of_sides(self):
        chain = Chain(Drop("on"), Same("a = b"))
        self.same([block[:4] for block in blocks(chain, "on a on b")], [
            (0, 0, 0, 0), (1, 1, 0, 1), (2, 2, 1, 0), (3, 3, 1, 1)])

    def test_equality(self):
        one = X("c a b")[1]
        self.assertIs(type(one), Block)
        self.equal_both_ways(one, X("d a b a")[1])
        self.equal_to_no_other(one, any_values() + [told(one)])
        self.equal_to_no_other(one, [
            X("a b")[0], X("c p q r")[1], X("c d a b")[2], Chain(Same("a b = p q"))("c a b")[1],
            Chain(Same("a b = c"))("c a b")[1], Chain(Same("a b = p q r", keep=False))("c p q r")[1]])
        self.equal_to_no_other(Chain(Drop("a"))("a")[0], [Chain(Stop("a"))("a")[0], Chain()("a")[0]])
        self.equal_both_ways(Chain(Stop("a"))("a")[0], Chain(Stop("b"))("b")[0])

    def test_equality_of_each_attribute(self):
        same = Chain(Same("a = b", keep=False))
        self.assertIs(same("a")[0] == same("b")[0], False)
        self.assertIs(Chain(Drop("a"))("b a")[1] == Chain(Drop("b"))("b a")[1], False)
        one, other = Chain(Same("a b = c", keep=False))("a b")[0], Chain()("a")[0]
        self.assertIs(one == other, False)
        longer = Chain(Same("c = a", "c = a b", keep=False))
        self.same([told(longer(text)[0])[:2] for text in ["a", "a b"]], [(0, 0), (0, 1)])
        self.same(longer("a")[0].sides, longer("a b")[0].sides)
        self.assertIs(longer("a")[0] == longer("a b")[0], False)


class GraphsTest(Case):
    def test_blocks_by_their_numbers(self):
        graph = X("a b c")
        self.assertIs(type(graph), Graph)
        self.same(len(graph), 2)
        self.same(told(graph[0]), (0, 1, 0, 3, (("a", "b"), ("p", "q", "r")), True))
        self.same(told(graph[1]), own(2, 3, "c"))
        self.same([told(block) for block in graph], [told(graph[0]), told(graph[1])])

    def test_values_that_are_no_numbers_of_blocks(self):
        graph = X("a b c")

        def block_of(number):
            return graph[number]

        for value in any_values() + [2, -1, -2, slice(0, 1), "0", 0.0]:
            if value is True or value is False or value not in (0, 1):
                self.fails(NoBlock, [value], block_of, value)
        for value in [0, -1, 1]:
            with self.assertRaises(NoBlock):
                X("")[value]

    def test_words_and_width(self):
        self.same(X("a b c").words, ("a", "b", "c"))
        self.same(X("a b c").width, 4)
        self.same([X("").words, X("").width, X("").tokens, len(X(""))], [(), 0, (), 0])
        graph = Chain(Drop("on"), Stop("x"), Stem("s"))("on cats x on")
        self.same([graph.words, graph.width, len(graph)], [("on", "cats", "x", "on"), 2, 4])

    def test_tokens(self):
        self.same(X("a b c").tokens, (
            (0, "a", 0, 0), (0, "p", 0, 1), (1, "b", 1, 1), (1, "q", 0, 1), (2, "r", 0, 1), (3, "c", 2, 2)))
        self.same(X("p q r").tokens, (
            (0, "a", 0, 2), (0, "p", 0, 0), (1, "b", 0, 2), (1, "q", 1, 1), (2, "r", 2, 2)))
        self.same(Chain()("b a b").tokens, ((0, "b", 0, 0), (1, "a", 1, 1), (2, "b", 2, 2)))

    def test_tokens_of_words_that_are_not_kept(self):
        chain = Chain(Same("p q = a b", "a b = x", keep=False))
        self.same(chain("c a b").tokens, (
            (0, "c", 0, 0), (1, "a", 1, 1), (1, "p", 1, 2), (2, "b", 2, 2), (2, "q", 1, 2)))
        self.same(chain("x").tokens, ((0, "a", 0, 0), (1, "b", 0, 0)))
        self.same(chain("p q").tokens, ((0, "p", 0, 0), (1, "q", 1, 1)))

    def test_holes_and_nothing_make_no_tokens(self):
        self.same(Chain(Stop("on"))("on cat on mat").tokens, ((1, "cat", 1, 1), (3, "mat", 3, 3)))
        self.same(Chain(Drop("on"))("on cat on mat").tokens, ((0, "cat", 1, 1), (1, "mat", 3, 3)))
        self.same(Chain(Stop("on"))("on on").tokens, ())
        chain = Chain(Stop("of"), Same("b of e = boe"))
        self.same(chain("boe").tokens, ((0, "b", 0, 0), (0, "boe", 0, 0), (2, "e", 0, 0)))
        self.same(chain("b of e").tokens, ((0, "b", 0, 0), (0, "boe", 0, 2), (2, "e", 2, 2)))

    def test_each_token_once(self):
        chain = Chain(Same("a = b c", "a = b d", "a = a d"))
        self.same(chain("a").tokens, ((0, "a", 0, 0), (0, "b", 0, 0), (1, "c", 0, 0), (1, "d", 0, 0)))
        chain = Chain(Same("a b = a c"))
        self.same(chain("a b").tokens, ((0, "a", 0, 0), (0, "a", 0, 1), (1, "b", 1, 1), (1, "c", 0, 1)))

    def test_words_in_a_graph(self):
        graph = Chain(Stop("on"), Stem("s"), Same("a b = p q r", keep=False))("p q r cats on")
        for word in ["a", "b", "cat"]:
            self.assertIs(word in graph, True)
        for value in any_values() + ["p", "q", "r", "cats", "on", "c"]:
            self.assertIs(value in graph, False)
        self.assertIs("a" in X(""), False)

    def test_equality(self):
        self.equal_both_ways(X("a b c"), X("a b c"))
        self.equal_both_ways(X("c d"), Chain()("c d"))
        self.equal_both_ways(X(""), Chain()(""))
        self.equal_to_no_other(X("a b c"), any_values() + [("a", "b", "c"), X("a b c").tokens])
        self.equal_to_no_other(X("a b c"), [X("a b"), X("a b d"), Chain()("a b c"), Chain(Same("a b = p q"))("a b c")])
        self.equal_to_no_other(Chain(Stop("a"))("a"), [Chain(Stop("b"))("b"), Chain(Drop("a"))("a")])

    def test_graphs_do_not_hang_on_one_another(self):
        one, other = X("a b c"), X("p q r")
        tokens = one.tokens
        list(one.ways())
        list(other.ways())
        X("c c c")
        self.same(one.tokens, tokens)
        self.equal_both_ways(one, X("a b c"))

    def test_the_examples(self):
        graph = X("a b c")
        self.same(
            [len(graph), graph.width, graph[0].sides, graph[0].is_own, graph[1].place, "q" in graph],
            [2, 4, (("a", "b"), ("p", "q", "r")), True, 3, True])
        self.same(
            [list(graph.ways()), graph.tokens[:3]],
            [[("a", "b", "c"), ("p", "q", "r", "c")], ((0, "a", 0, 0), (0, "p", 0, 1), (1, "b", 1, 1))])

    def test_two_thousand_blocks(self):
        graph = TWO(" ".join(["a"] * 2000))
        self.same([len(graph), graph.width, len(graph.tokens), len(graph.words)], [2000, 2000, 4000, 2000])
        self.same(told(graph[1999]), (1999, 1999, 1999, 1, (("a",), ("b",)), True))
        graph = Chain(Drop("a"))(" ".join(["a"] * 2000))
        self.same([len(graph), graph.width, graph.tokens], [2000, 0, ()])


class WaysTest(Case):
    def test_the_order(self):
        chain = Chain(Same("a = b = c", "x y = z"))
        self.same(list(chain("b d x y").ways()), [
            ("b", "d", "x", "y"), ("b", "d", "z"), ("a", "d", "x", "y"), ("a", "d", "z"), ("c", "d", "x", "y"),
            ("c", "d", "z")])

    def test_one_way_without_entries(self):
        self.same(list(X("").ways()), [()])
        self.same(list(Chain(Drop("a"))("a a").ways()), [()])

    def test_holes_and_nothing(self):
        chain = Chain(Stop("on"), Drop("x"), Same("a = b"))
        self.same(list(chain("on x a x on").ways()), [("*", "a", "*"), ("*", "b", "*")])

    def test_equal_ways_come_each_time(self):
        chain = Chain(Same("a = a b", "c = b c"))
        self.same(list(chain("a c").ways()), [("a", "c"), ("a", "b", "c"), ("a", "b", "c"), ("a", "b", "b", "c")])

    def test_words_that_are_not_kept(self):
        chain = Chain(Same("a = b", "c d = b", keep=False))
        self.same(list(chain("b a").ways()), [("a", "a"), ("c", "d", "a")])

    def test_two_generators_by_turns(self):
        graph = TWO("a b")
        one, other = graph.ways(), graph.ways()
        self.same(next(one), ("a", "b"))
        self.same(next(one), ("a", "a"))
        self.same(next(other), ("a", "b"))
        self.same(list(one), [("b", "b"), ("b", "a")])
        self.same(list(other), [("a", "a"), ("b", "b"), ("b", "a")])
        self.same(list(graph.ways()), [("a", "b"), ("a", "a"), ("b", "b"), ("b", "a")])

    def test_the_first_ways_of_very_many(self):
        ways = TWO(" ".join(["a"] * 2000)).ways()
        first = list(itertools.islice(ways, 5))
        self.same([way[:1997] for way in first], [("a",) * 1997] * 5)
        self.same(["".join(way[1997:]) for way in first], ["aaa", "aab", "aba", "abb", "baa"])

    def test_two_thousand_blocks_with_few_ways(self):
        graph = Chain(Same("a = b"))("a" + " c" * 1998 + " a")
        self.same(list(graph.ways()), [
            (first,) + ("c",) * 1998 + (last,) for first in "ab" for last in "ab"])


class ChartTest(Case):
    def test_the_columns(self):
        self.same(chart(X("a b c")).split("\n"), [
            "   0 a            0   0", "   0 p            0   1", "   1 b            1   1", "   1 q            0   1",
            "   2 r            0   1", "   3 c            2   2"])
        self.same(chart(graph=Chain()("abcdefghij")), "   0 abcdefghij   0   0")

    def test_without_tokens(self):
        for graph in [X(""), Chain(Stop("a"))("a a"), Chain(Drop("a"))("a")]:
            self.same(chart(graph), "")

    def test_long_texts(self):
        graph = Chain()(" ".join(["a"] * 1200))
        lines = chart(graph).split("\n")
        self.same(len(lines), 1200)
        self.same([lines[9], lines[10], lines[123], lines[1199]], [
            "   9 a            9   9", "  10 a           10  10", " 123 a          123 123", "1199 a          1199 1199"])


def model(chain, text):
    """The graph of a text, straight from the words of the document: blocks and tokens."""
    words = text.split(" ") if text else []
    results = [chain.result(word) for word in words]
    found, tokens, start, place = [], set(), 0, 0
    while start < len(words):
        met = [
            (len(side), side) for rule in chain.rules for side in rule
            if list(side) == results[start:start + len(side)]]
        sides, is_own, last = [], False, start
        if results[start] is not None and not met:
            sides, is_own = [(results[start],)], True
        elif results[start] is not None:
            side = max(met)[1]
            last = start + len(side) - 1
            for rule in chain.rules:
                if side in rule:
                    for other in rule if chain.keep else rule[:1]:
                        if other not in sides:
                            sides.append(other)
            is_own = side in sides
            if is_own:
                sides.remove(side)
                sides.insert(0, side)
        width = max((len(side) for side in sides), default=0)
        found.append((start, last, place, width, tuple(sides), is_own))
        for number, side in enumerate(sides):
            for index, entry in enumerate(side):
                span = (start + index,) * 2 if is_own and number == 0 else (start, last)
                if entry != "*":
                    tokens.add((place + index, entry) + span)
        start, place = last + 1, place + width
    return found, tuple(sorted(tokens))


def some_chains(many):
    """Chains with rules over few letters, the same ones each time."""
    dice = random.Random(5)
    while many > 0:
        dropping = dice.random() < 0.2
        steps = []
        if dice.random() < 0.5:
            steps.append(Drop("e") if dropping else Stop("e", "f"))
        if dice.random() < 0.4:
            steps.append(Swap.of({dice.choice("abcd"): dice.choice("abcde")}))
        longest = 1 if dropping else 3
        rules = [
            " = ".join(
                " ".join(dice.choice("abcdef") for _ in range(dice.randint(1, longest)))
                for _ in range(dice.randint(2, 4)))
            for _ in range(dice.randint(1, 3))]
        try:
            yield Chain(*steps, Same(*rules, keep=dice.random() < 0.6))
        except ValueError:
            continue
        many -= 1


class ModelTest(Case):
    def test_graphs_of_many_chains(self):
        dice = random.Random(7)
        for chain in some_chains(150):
            for _ in range(30):
                text = " ".join(dice.choice("abcdefg") for _ in range(dice.randint(0, 7)))
                found, tokens = model(chain, text)
                graph = chain(text)
                self.same([blocks(chain, text), graph.tokens], [found, tokens])
                self.same([graph.width, len(graph)], [sum(row[3] for row in found), len(found)])
                choices = itertools.product(*[row[4] for row in found if row[4]])
                ways = [tuple(entry for side in sides for entry in side) for sides in itertools.islice(choices, 50)]
                self.same(list(itertools.islice(graph.ways(), 50)), ways)
                self.same(str(Chain.read(str(chain))), str(chain))
                self.equal_both_ways(Chain.read(str(chain)), chain)


if __name__ == "__main__":
    unittest.main()
