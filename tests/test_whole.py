"""What the parts of the program tell of one another, by their functions alone."""

import random
import unittest

from quotehome.begun import beginnings, begun
from quotehome.books import Book
from quotehome.chains import Chain
from quotehome.charts import chart
from quotehome.desk import Desk
from quotehome.exact import found_exactly, lies
from quotehome.ghosts import ghost_of, ghosts
from quotehome.home import asks, found, home_places, missed
from quotehome.judging import judge
from quotehome.kinds import kinds, like
from quotehome.looks import shows_missed, shows_safe
from quotehome.mender import mend
from quotehome.phrases import hit_places
from quotehome.reports import report, shelf_report
from quotehome.rewordings import rewordings
from quotehome.rows import first_row, row_of
from quotehome.rules import Same
from quotehome.shelves import Shelf
from quotehome.starts import snap
from tests import models
from tests.helper import Case

NAMES = dict(zip("abcdefz", ["dove", "cat", "bee", "ape", "zebra", "yak", "x"]))


def renamed(text):
    """A text, or the text of a chain, with other words."""
    return "\n".join(
        " ".join(NAMES.get(word, word) for word in line.split(" ")) for line in text.split("\n"))


def put(value):
    """A value that a function told, with other words for all words."""
    if isinstance(value, str):
        return renamed(value)
    if isinstance(value, dict):
        return {put(key): put(worth) for key, worth in value.items()}
    return type(value)(put(part) for part in value) if isinstance(value, (list, tuple)) else value


def quotes_of(text):
    many = len(text.split(" ")) if text else 0
    return [(first, last) for first in range(many) for last in range(first, many)]


def blocks_told(graph):
    return [(block.first, block.last, block.place, block.width, block.sides, block.is_own) for block in graph]


class OtherWordsTest(Case):
    def told(self, writer, asker, text, quote):
        """What hangs on the words by their places alone."""
        graph, book = writer(text), Book(writer)
        book.add("one", text)
        hits = list(book.hits(asker(quote)))
        return [
            graph.words, blocks_told(graph), sorted(graph.tokens), [asker.result(word) for word in graph.words],
            [list(missed(writer, asker, text)), hits, [book.marks(name, asker(quote), place) for name, place in hits]],
            [[asks(asker, text, *pair)] + [tell(writer, asker, text, *pair) for tell in (home_places, found_exactly)]
             for pair in quotes_of(text)],
            [lies(asker(quote), graph), list(rewordings(asker, quote))], list(beginnings(writer)), ghosts(graph),
            [begun(writer, text, first) for first in range(len(graph.words) + 1)], len(kinds(writer, asker))]

    def test_texts(self):
        dice = random.Random(131)
        for _ in range(80):
            writer, asker = models.some_pair(dice)
            text, quote = models.some_text(dice, 6, "abcdefz"), models.some_text(dice, 4, "abcdefz")
            one = put(self.told(writer, asker, text, quote))
            chains = [Chain.read(renamed(str(chain))) for chain in (writer, asker)]
            other = self.told(*chains, renamed(text), renamed(quote))
            # Other words have another order.
            for number in (2, 7, 8):
                one[number] = sorted(map(repr, one[number]))
                other[number] = sorted(map(repr, other[number]))
            self.same(other, one)

    def test_verdicts(self):
        dice = random.Random(132)
        for _ in range(60):
            writer, asker = models.small_pair(dice, letters="abcef", rules=2)
            verdict = judge(writer, asker)
            other = judge(Chain.read(renamed(str(writer))), Chain.read(renamed(str(asker))))
            self.same(sorted(other.safe), sorted(put(verdict.safe)))
            self.same(other.follows, verdict.follows)
            for start, (text, _, last) in verdict.misses.items():
                self.same(len(other.misses[put(start)][0].split(" ")), len(text.split(" ")))
                if not any(word in NAMES.values() for word in text.split(" ")):
                    miss = (renamed(text), len(start), last)
                    self.same(shows_missed(other.writer, other.asker, put(start), miss), True)
            text = models.some_text(dice, 8, "abcefz")
            self.same(other.starts(renamed(text)), verdict.starts(text))
            one = ghost_of(writer)
            self.same(
                None if one is None else len(one[0].split(" ")),
                None if one is None else len(ghost_of(other.writer)[0].split(" ")))


class OtherOrderTest(Case):
    def turned(self, chain):
        """The chain with its rules in another order."""
        rules = [" = ".join(" ".join(side) for side in rule) for rule in chain.steps[-1].rules] if chain.rules else []
        return chain.with_rules(*rules[::-1], keep=chain.keep)

    def test_rules_in_another_order(self):
        dice = random.Random(133)
        for _ in range(60):
            writer, asker = models.small_pair(dice, letters="abce", rules=3)
            turned = [self.turned(chain) for chain in (writer, asker)]
            text = models.some_text(dice, 7, "abcez")
            self.same(turned[0](text).tokens, writer(text).tokens)
            self.same(list(missed(*turned, text)), list(missed(writer, asker, text)))
            self.same(hit_places(turned[1](text), turned[0](text)), hit_places(asker(text), writer(text)))
            self.same(ghosts(turned[0](text)), ghosts(writer(text)))
            self.same(beginnings(turned[0]), beginnings(writer))
            one, other = judge(writer, asker), judge(*turned)
            self.same(other.safe, one.safe)
            self.same([len(miss[0].split(" ")) for miss in other.misses.values()],
                      [len(miss[0].split(" ")) for miss in one.misses.values()])
            for start in one.safe:
                self.same(shows_safe(*turned, start, one.rows), True)
                self.same(shows_safe(writer, asker, start, other.rows), True)
            for start, miss in one.misses.items():
                self.same(shows_missed(*turned, start, miss), True)

    def test_chains_exchanged(self):
        dice = random.Random(134)
        for _ in range(40):
            writer, asker = models.some_pair(dice)
            self.same(len(kinds(writer, asker)), len(kinds(asker, writer)))
            for word in kinds(asker, writer):
                self.same(sum(like(writer, asker, word, other) for other in kinds(writer, asker)), 1)


class OneTextTest(Case):
    def check(self, writer, asker, text):
        """All that is told of one text agrees."""
        verdict, written, bad = judge(writer, asker), writer(text), list(missed(writer, asker, text))
        many = len(written.words)
        for first, last in quotes_of(text):
            quote = " ".join(written.words[first:last + 1])
            is_found = found(writer, asker, text, first, last)
            places = home_places(writer, asker, text, first, last)
            self.same(is_found, (first, last) not in bad)
            self.same(is_found, len(places) > 0 or not asks(asker, text, first, last))
            self.assertLessEqual(set(places), set(hit_places(asker(quote), written)))
            row = row_of(writer, asker, text, first, last)
            self.assertTrue(row is is_found or isinstance(row, tuple))
            if verdict.is_safe(begun(writer, text, first)):
                self.same(is_found, True)
            if not is_found:
                start = begun(writer, text, first)
                self.assertIn(start, verdict.misses)
                self.assertLessEqual(
                    len(verdict.misses[start][0].split(" ")) - len(start), many - first)
            if writer.bare() == asker.bare() and (writer.keep and asker.keep):
                self.same(found_exactly(writer, asker, text, first, last), True)
        starts = verdict.starts(text)
        for first in range(many):
            ahead = [number for number in starts if number <= first]
            self.same(snap(writer, asker, text, first), ahead[-1] if ahead else None)
        return verdict, bad

    def test_many_texts(self):
        dice = random.Random(135)
        follow = 0
        for _ in range(80):
            writer, asker = models.small_pair(dice, letters="abce", most_words=dice.choice([2, 4]), rules=2)
            text = models.some_text(dice, 7, "abcez")
            verdict, bad = self.check(writer, asker, text)
            self.check_report(verdict)
            if verdict:
                follow += 1
                self.same(bad, [])
                self.check_shelf(dice, writer, asker, text)
        self.assertGreater(follow, 15)

    def check_report(self, verdict):
        lines = report(verdict).split("\n")
        self.same(len(lines), 1 + len(beginnings(verdict.writer)))
        self.same(sum(" missed " in line for line in lines), len(verdict.misses))
        for start in beginnings(verdict.writer):
            self.same(shows_safe(verdict.writer, verdict.asker, start, verdict.rows), verdict.is_safe(start))
            self.same(first_row(verdict.writer, verdict.asker, start)[3], -1)

    def check_shelf(self, dice, writer, asker, text):
        """A shelf tells what a book and quotes tell of its texts."""
        shelf, book = Shelf(writer, asker), Book(writer)
        for name in ["one", "two"]:
            shelf.add(name, text)
            book.add(name, text)
            text = models.some_text(dice, 6, "abcez")
        quote = models.some_text(dice, 3, "abcez")
        self.same(list(shelf.find(quote)), list(book.hits(asker(quote))))
        self.same(shelf.stale, ())
        plain = Chain()
        before = list(shelf.find(quote))
        shelf.renew(plain, plain)
        stale = [name for name in shelf.names if list(missed(writer, plain, shelf[name]))]
        self.same(shelf.stale, tuple(stale))
        self.same(shelf_report(shelf).count("stale"), len(stale))
        shelf.renew(writer, asker)
        self.same(list(shelf.find(quote)), before)

    def test_mended_chains(self):
        dice = random.Random(136)
        for _ in range(30):
            rules = [" = ".join(" ".join(dice.choice("abc") for _ in range(dice.randint(1, 3))) for _ in range(2))
                     for _ in range(3)]
            writer, asker = Chain(Same(*rules)), Chain(Same(rules[0]))
            if models.many_entries(writer) + models.many_entries(asker) <= 24:
                _, mended, asking, misses = mend(writer, asker)
                shelf = Shelf(mended, asking)
                text = models.some_text(dice, 8, "abcz")
                shelf.add("one", text)
                self.same([shelf.stale, list(missed(mended, asking, text))], [(), []])
                if () in misses:
                    self.assertIn(misses[()][1:], list(missed(writer, asker, misses[()][0])))

    def test_a_desk(self):
        dice = random.Random(137)
        for _ in range(30):
            writer, asker = models.small_pair(dice, letters="abce", rules=2)
            desk = Desk()
            for name, chain in [("writer", writer), ("asker", asker)]:
                for line in str(chain).split("\n") if len(chain) else []:
                    self.same(desk.say(f"{name} {line}"), "ok")
            self.same([str(desk.writer), str(desk.asker)], [str(writer), str(asker)])
            text = "a " + models.some_text(dice, 5, "abcez") + " b"
            text = " ".join(text.split())
            self.same(desk.say("judge"), report(judge(writer, asker)).replace("\n", " | "))
            self.same(desk.say("graph " + text), chart(writer(text)).replace("\n", " | ") or "-")
            for first, last in quotes_of(text):
                told = "asks nothing" if not asks(asker, text, first, last) else "missed" if (
                    (first, last) in list(missed(writer, asker, text))) else "found"
                self.same(desk.say(f"found {first} {last} {text}"), told)


if __name__ == "__main__":
    unittest.main()
