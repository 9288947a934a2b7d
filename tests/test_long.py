"""Long inputs: the same answers as for short ones."""

import itertools
import random
import unittest

from quotehome.begun import begun
from quotehome.books import Book
from quotehome.chains import Chain
from quotehome.exact import found_exactly, lies
from quotehome.home import found, home_places, missed
from quotehome.judging import judge
from quotehome.kinds import kinds, like
from quotehome.phrases import hit_places
from quotehome.rows import end_row, first_row, last_row, read_row, row_of
from quotehome.rules import Same
from quotehome.steps import Drop, Stem, Stop
from tests import models
from tests.helper import Case

PLAIN = Chain()
WORDS = ["".join(letters) for letters in itertools.product("abcdefghij", repeat=3)]
THOUSAND = " ".join(WORDS)


class SixtyWordsTest(Case):
    """A text of sixty words, read word by word."""

    def check(self, writer, asker, text, first, last):
        words = text.split(" ")
        row = first_row(writer, asker, begun(writer, text, first))
        for word in words[first:last + 1]:
            row = read_row(writer, asker, row, word) if isinstance(row, tuple) else row
        row = end_row(writer, asker, row) if isinstance(row, tuple) else row
        for word in words[last + 1:]:
            row = read_row(writer, asker, row, word) if isinstance(row, tuple) else row
        self.same(row_of(writer, asker, text, first, last), row)
        row = last_row(writer, asker, row) if isinstance(row, tuple) else row
        self.same(found(writer, asker, text, first, last), row)
        self.same(row, len(home_places(writer, asker, text, first, last)) > 0)

    def test_sixty_words(self):
        threes, twos = Chain.read("same a a a = b b b"), Chain.read("same a a = b b b")
        for writer, asker in [(threes, threes), (threes, PLAIN), (PLAIN, threes), (twos, twos), (twos, PLAIN)]:
            for first in range(10):
                self.check(writer, asker, " ".join(["a"] * 60), first, 50 + first % 7)
                self.check(writer, asker, " ".join(["a", "a", "b"] * 20), first, 59 - first)

    def test_the_rows_that_are_told(self):
        chain = Chain.read("same a a = b b b")
        self.same(first_row(chain, chain, ()), ((), 0, 0, -1, ()))
        self.same(read_row(chain, chain, ((), 0, 0, -1, (-1, 0)), "a"), (("a",), 0, 0, -1, (-1, 0)))
        text = " ".join(["a"] * 60)
        self.same(row_of(chain, chain, text, 0), ((), 0, 0, -1, (-1, 0)))
        self.same(row_of(chain, chain, text, 1), (("a", "a"), 0, 1, -1, (3,)))
        self.same(row_of(chain, chain, text, 1, 1), True)

    def test_many_words_and_endings(self):
        steps = [Stop(*WORDS[20 * number:20 * number + 20]) for number in range(4)]
        stem = Stem("s", "es", "ed", "ing", "er", "est", "ly", "al", keep=WORDS[500:520])
        writer, asker = Chain(*steps, stem, Same("x y = p q r")), Chain(stem, *steps, Same("x y = p q r"))
        known = kinds(writer, asker)
        for one, other in itertools.combinations(known, 2):
            self.same(like(writer, asker, one, other), False)
        words = WORDS[::7] + [word + "es" for word in WORDS[:90:7]]
        words += ["xs", "xes", "xx", "xxing", "zoos", "x", "y", "p"]
        for word in words:
            self.same(sum(like(writer, asker, word, other) for other in known), 1)
        text = "x y aaa p q xxing x"
        for first in range(7):
            row = first_row(writer, asker, begun(writer, text, first))
            for word in text.split(" ")[first:]:
                row = read_row(writer, asker, row, word) if isinstance(row, tuple) else row
            self.same(row, row_of(writer, asker, text, first))
            self.same(row, models.row_of(writer, asker, text, first, None, known))


class ThousandWordsTest(Case):
    """A text of a thousand unlike words, by chains without steps."""

    def test_the_graph(self):
        graph = PLAIN(THOUSAND)
        self.same([len(graph), graph.width, graph.words], [1000, 1000, tuple(WORDS)])
        self.same(graph.tokens, tuple((number, word, number, number) for number, word in enumerate(WORDS)))
        for number in (0, 1, 500, 999):
            block = graph[number]
            self.same(
                [block.first, block.last, block.place, block.width, block.sides, block.is_own],
                [number, number, number, 1, ((WORDS[number],),), True])
        self.same(["aaa" in graph, "jjj" in graph, "aa" in graph], [True, True, False])
        self.same(list(graph.ways()), [tuple(WORDS)])

    def test_quotes(self):
        for first, last in [(0, 999), (1, 998), (999, 999), (0, 0), (400, 700)]:
            self.same(found(PLAIN, PLAIN, THOUSAND, first, last), True)
            self.same(found_exactly(PLAIN, PLAIN, THOUSAND, first, last), True)
            self.same(home_places(PLAIN, PLAIN, THOUSAND, first, last), [first])
        self.same(list(missed(PLAIN, PLAIN, THOUSAND)), [])

    def test_a_word_that_is_missed(self):
        drop, stop = Chain(Drop("eee")), Chain(Stop("eee"))
        at = WORDS.index("eee")
        for first, last in [(0, 999), (at, 999), (at - 1, at + 1), (0, at), (at + 1, 999)]:
            is_across = first < at < last
            self.same(found(PLAIN, stop, THOUSAND, first, last), True)
            self.same(found(PLAIN, drop, THOUSAND, first, last), not is_across)
            self.same(found_exactly(PLAIN, stop, THOUSAND, first, last), True)
            self.same(found_exactly(PLAIN, drop, THOUSAND, first, last), not is_across)
        self.same(list(missed(PLAIN, drop, THOUSAND))[:3], [(0, at + 1), (0, at + 2), (0, at + 3)])
        self.same(len(list(missed(PLAIN, drop, THOUSAND))), at * (999 - at))

    def test_graphs_in_one_another(self):
        graph, behind = PLAIN(THOUSAND), PLAIN(" ".join(WORDS[400:]))
        self.same([lies(graph, graph), lies(behind, graph), lies(graph, behind)], [True, True, False])
        self.same([hit_places(graph, graph), hit_places(behind, graph), hit_places(graph, behind)], [[0], [400], []])
        turned = PLAIN(" ".join(WORDS[::-1]))
        self.same([lies(turned, graph), hit_places(turned, graph)], [False, []])
        book = Book(PLAIN)
        book.add("one", THOUSAND)
        self.same(list(book.hits(behind)), [("one", 400)])
        self.same(book.marks("one", behind, 400), tuple(range(400, 1000)))

    def test_sides_among_them(self):
        chain = Chain(Same(" ".join(WORDS[300:302]) + " = x y z", " ".join(WORDS[700:704]) + " = w"))
        graph = chain(THOUSAND)
        self.same([len(graph), graph.width, graph.tokens[-1]], [996, 1001, (1000, "jjj", 999, 999)])
        told = list(missed(chain, chain, THOUSAND))
        self.same(told, [(301, last) for last in range(302, 1000)])
        self.same(found(chain, chain, THOUSAND, 0, 999), True)
        self.same(found_exactly(chain, chain, THOUSAND, 301, 999), True)
        self.same([lies(graph, graph), lies(PLAIN(THOUSAND), graph)], [True, True])
        verdict = judge(chain, chain)
        self.same(verdict.starts(THOUSAND), [number for number in range(1000) if number != 301])


class SidesTest(Case):
    def test_texts_that_are_mostly_sides(self):
        dice = random.Random(141)
        for _ in range(12):
            rules = [" = ".join(" ".join(dice.choice("abcd") for _ in range(dice.randint(1, 3))) for _ in range(2))
                     for _ in range(3)]
            chain = Chain(Same(*rules))
            sides = [" ".join(side) for rule in chain.rules for side in rule]
            words = " ".join(dice.choice(sides + ["z"]) for _ in range(20)).split(" ")[:24]
            text = " ".join(words)
            told = list(missed(chain, chain, text))
            for first in range(len(words)):
                for last in range(first, min(first + 5, len(words))):
                    self.same((first, last) not in told, models.found(chain, chain, text, first, last))
                for last in range(first, len(words)):
                    self.same((first, last) not in told, found(chain, chain, text, first, last))
            book = Book(chain)
            book.add("one", text)
            self.assertIn(("one", 0), list(book.hits(chain(text))))
            self.assertIn(0, book.marks("one", chain(text), 0))

    def test_a_quote_that_begins_inside_of_a_block_and_goes_on(self):
        # The tokens x and y come from words ahead of the quote, too, whatever stands behind it.
        writer, asker = Chain(Same("x y = a b c d", keep=False)), Chain(Stop("b"), Same("c d = x y"))
        text = "a b c d z z z z z z z z z z"
        self.same([pair for pair in missed(writer, asker, text) if pair[0] == 1], [(1, last) for last in range(2, 14)])
        self.same([pair for pair in missed(writer, asker, text) if pair[0] == 0], [(0, last) for last in range(14)])
        asker = Chain(Stop("a", "b"), Same("c d = x y"))
        self.same([pair for pair in missed(writer, asker, text) if pair[0] == 0], [(0, 2)])

    def test_quotes_of_long_texts(self):
        # Each missed quote is told, however far its end lies behind its first word.
        dice = random.Random(142)
        for _ in range(30):
            writer, asker = models.some_pair(dice, letters="abce", most_words=4)
            text = " ".join(dice.choice("abcez") for _ in range(dice.randint(12, 30)))
            many = len(text.split(" "))
            self.same(list(missed(writer, asker, text)), [
                (first, last) for first in range(many) for last in range(first, many)
                if not found(writer, asker, text, first, last)])


if __name__ == "__main__":
    unittest.main()
