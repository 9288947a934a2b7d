import random
import unittest

from quotehome import home
from quotehome.begun import beginnings, begun
from quotehome.chains import Chain
from quotehome.errors import InvalidText, NoBeginning, TooMany
from quotehome.judging import judge
from quotehome.kinds import kinds
from quotehome.rows import end_row, first_row, last_row, read_row
from quotehome.rules import Same
from quotehome.steps import Drop, Stem, Stop, Swap
from tests import models
from tests.helper import Case, any_values

X = Chain(Same("a b = p q r"))
PLAIN = Chain()


def read(*lines):
    return Chain.read("\n".join(lines))


# Writers with askers: equal ones, ones with the same word steps, and any ones.
PAIRS = [
    (X, X), (X, PLAIN), (PLAIN, X), (PLAIN, PLAIN),
    # Words are not kept, at one end or at both.
    (read("first a b = c"),) * 2, (read("first a = b"), read("same a = b")), (read("same a = b"), read("first a = b")),
    (PLAIN, read("first a = b")), (read("first a = b c"), read("first b c = a")), (read("first a b = a"),) * 2,
    # Holes, also inside of sides.
    (PLAIN, Chain(Stop("o"))), (Chain(Stop("o")), PLAIN), (Chain(Stop("o")),) * 2,
    (read("stop o u", "same a o b = c"),) * 2, (read("stop o u", "same a o b = c"), Chain(Stop("o", "u"))),
    (read("stop o", "same a o b = c d e"), read("stop o", "same d = f")),
    # Words that are left away.
    (PLAIN, Chain(Drop("o"))), (Chain(Drop("o")), Chain(Drop("o"))), (Chain(Drop("o")), Chain(Stop("o"))),
    (read("drop o", "same a = b"),) * 2, (read("drop o", "same a = b"), PLAIN),
    (Chain(Drop("o", "u")), Chain(Drop("o"))),
    # Endings, and words that are exchanged.
    (Chain(Stem("s")),) * 2, (Chain(Stem("s")), PLAIN), (read("stem s - as", "same ca = b c"),) * 2,
    (Chain(Swap(a="b")),) * 2, (Chain(Swap(a="b")), PLAIN), (read("swap a b b a", "same a b = c"),) * 2,
    (read("swap a b", "same b c = a"), read("same b c = d")),
    # Sides that begin one another, share words, and end with one another.
    (read("same a = a b"),) * 2, (read("same a b = a", "same a b c = d"),) * 2, (read("same a = b = a b"), PLAIN),
    (read("same a b = b c", "same b c = a"),) * 2, (read("same a b = c b", "same c = a"),) * 2,
    (read("same b = a b"),) * 2, (read("same b = a b"), PLAIN), (read("same a = b a", "same b = a b"),) * 2,
    (read("same a a = b"),) * 2, (read("same a a a = a"),) * 2, (read("same a = a a"),) * 2,
]


class JudgingCase(Case):
    def texts_of_sides(self, dice, chains, many):
        """Longer texts that are put together of sides and other words."""
        sides = [" ".join(side) for chain in chains if chain.rules for rule in chain.steps[-1].rules for side in rule]
        for _ in range(many):
            yield " ".join(dice.choice(sides + ["a", "b", "o", "zoo", "as"]) for _ in range(dice.randint(1, 6)))

    def check_verdict(self, dice, writer, asker, limit):
        """The verdict on two chains is that of a slow look at all texts of few words."""
        verdict = judge(writer, asker)
        known = kinds(writer, asker)
        least, tried = models.least_misses(writer, asker, known, 5, limit)
        misses = verdict.misses
        self.same(sorted(list(verdict.safe) + list(misses)), list(beginnings(writer)))
        self.same(list(misses), sorted(misses))
        for start in verdict.safe:
            self.assertNotIn(start, least)
        for start, miss in misses.items():
            self.check_miss(writer, asker, start, miss)
            many = len(miss[0].split(" "))
            self.same(least.get(start, many), many)
            self.assertTrue(start in least or many > tried)
        for text in self.texts_of_sides(dice, [writer, asker], 12):
            for first, _ in home.missed(writer, asker, text):
                self.assertIn(begun(writer, text, first), misses)
        self.check_table(verdict, known)

    def check_miss(self, writer, asker, start, miss):
        text, first, last = miss
        words = text.split(" ")
        self.same([type(part) for part in miss], [str, int, int])
        self.same(first, len(start))
        self.same(tuple(writer.result(word) for word in words[:first]), start)
        self.same(begun(writer, text, first), start)
        self.assertIn((first, last), models.missed(writer, asker, text))

    def check_table(self, verdict, known):
        """The rows cover the first row of each safe beginning, and the answers of each of them."""
        rows = verdict.rows
        self.same(rows, tuple(sorted(set(rows))))

        def is_covered(row):
            return any(
                other[:4] == row[:4] and set(other[4]) <= set(row[4]) and bool(other[4]) == bool(row[4])
                for other in rows)

        for start in verdict.safe:
            self.assertTrue(is_covered(first_row(verdict.writer, verdict.asker, start)))
        for row in rows:
            answers = [read_row(verdict.writer, verdict.asker, row, word) for word in known]
            answers.append((end_row if row[3] == -1 else last_row)(verdict.writer, verdict.asker, row))
            for answer in answers:
                self.assertTrue(answer is True or (answer is not False and is_covered(answer)), (row, answer))


class JudgeTest(JudgingCase):
    def test_all_kinds_of_chains(self):
        dice = random.Random(71)
        for writer, asker in PAIRS:
            self.check_verdict(dice, writer, asker, 450)

    def test_many_chains(self):
        dice = random.Random(72)
        for _ in range(70):
            letters = dice.choice(["ab", "abc", "abe", "abcd"])
            writer, asker = models.small_pair(dice, letters=letters, most_words=dice.choice([2, 3, 4]), rules=2)
            self.check_verdict(dice, writer, asker, 300)

    def test_too_many_entries(self):
        rules = ["a b c d = e f g h", "i j k l = m n o p", "q r s t = u v w x"]
        both = Chain(Same(*rules))
        self.same(judge(both, PLAIN).follows, True)
        self.same(judge(both.with_rules(*rules[:2]), both.with_rules(rules[2])).follows, True)
        wrong = [
            (Chain(Same(*rules, "y = y")), PLAIN), (PLAIN, Chain(Same(*rules, "y = y"))),
            (both, Chain(Same("y = y"))), (both, both), (Chain(Same(*rules[:2], "q r = s t", "u v = w = y z")), PLAIN)]
        for writer, asker in wrong:
            self.fails_in_all_ways(TooMany, [24], judge, writer=writer, asker=asker)

    def test_holes_are_entries_too_and_equal_sides_are_one(self):
        rules = ["a on on b = c on on d", "e f g h = i j k l", "m n o p = q r s t"]
        self.same(judge(Chain(Stop("on"), Same(*rules)), Chain(Stop("on"))).follows, True)
        self.fails(TooMany, [24], judge, Chain(Stop("on"), Same(*rules, "u = u")), Chain(Stop("on")))
        # Sixteen entries are left of these.
        self.same(judge(Chain(Same(*["a b c d = a b c d"] * 4)), PLAIN).follows, True)

    def test_the_same_again(self):
        for writer, asker in PAIRS[:12]:
            one, other = judge(writer, asker), judge(writer=Chain.read(str(writer)), asker=Chain.read(str(asker)))
            self.same([one.safe, one.misses, one.rows], [other.safe, other.misses, other.rows])


class VerdictTest(JudgingCase):
    def test_what_it_tells(self):
        verdict = judge(X, PLAIN | X)
        self.assertIs(verdict.writer, X)
        self.same(str(verdict.asker), str(X))
        self.same(verdict.safe, ((), ("p",), ("p", "q")))
        self.same([verdict.follows, bool(verdict), not verdict], [False, False, True])
        verdict = judge(PLAIN, X)
        self.same([verdict.follows, bool(verdict), verdict.safe, verdict.misses], [True, True, ((),), {}])
        self.owns(type(verdict), ["is_safe", "starts", "__eq__", "__bool__"])

    def test_the_misses_belong_to_the_caller(self):
        verdict = judge(X, X)
        kept = verdict.misses
        kept.clear()
        self.same(list(verdict.misses), [("a",)])
        self.assertIsNot(verdict.misses, verdict.misses)

    def test_is_safe(self):
        verdict = judge(X, X)
        for start, answer in [((), True), (("a",), False), (("p",), True), (("p", "q"), True)]:
            self.gives(answer, verdict.is_safe, begun=start)
        for value in any_values() + [("a", "b"), ("p", "q", "r"), ["a"], ("q",), "a", ("p", None), (("a",),)]:
            if value not in [(), ("a",)]:
                self.fails_in_all_ways(NoBeginning, [value], verdict.is_safe, begun=value)

    def test_starts(self):
        verdict = judge(X, X)
        for text, starts in [
                ("", []), ("a", [0]), ("a b", [0]), ("a b a c", [0, 2]), ("p q r c", [0, 1, 2, 3]),
                ("x a a b", [0, 1]), ("x a x a", [0, 1, 3])]:
            self.gives(starts, verdict.starts, text=text)
        self.gives([0, 1, 2], judge(PLAIN, X).starts, text="a b c")
        self.gives([], judge(X, PLAIN).starts, text="a b c")
        for value, index in [(" ", 0), ("a  b", 1), ("a B", 1), (None, 0), (7, 0), (["a"], 0)]:
            self.fails_in_all_ways(InvalidText, [index], verdict.starts, text=value)
        for value in any_values():
            if not isinstance(value, str):
                self.fails_in_all_ways(InvalidText, [0], verdict.starts, text=value)

    def test_starts_are_those_of_begun(self):
        dice = random.Random(73)
        for _ in range(60):
            writer, asker = models.small_pair(dice, letters="abc", most_words=4, rules=2)
            verdict = judge(writer, asker)
            text = models.some_text(dice, 12, "abcz")
            many = len(text.split(" ")) if text else 0
            self.same(
                verdict.starts(text), [first for first in range(many) if verdict.is_safe(begun(writer, text, first))])

    def test_a_long_text(self):
        verdict = judge(X, X)
        text = " ".join(["a b"] * 1000)
        self.same(verdict.starts(text), list(range(0, 2000, 2)))

    def test_equal_ones(self):
        self.equal_both_ways(judge(X, PLAIN), judge(Chain.read(str(X)), Chain()))
        self.equal_to_no_other(judge(X, PLAIN), any_values() + [judge(PLAIN, X), judge(X, X), judge(PLAIN, PLAIN), X])

    def test_the_example(self):
        verdict = judge(Chain(Same("a b = p q r")), Chain(Same("a b = p q r")))
        self.same(
            [verdict.follows, verdict.safe, verdict.misses[("a",)][1:], verdict.starts("a b a c")],
            [False, ((), ("p",), ("p", "q")), (1, 2), [0, 2]])
        self.same(bool(judge(Chain(), Chain(Same("a b = p q r")))), True)


class DocumentTest(JudgingCase):
    def test_of_the_document(self):
        verdict = judge(X, X)
        self.same(beginnings(X), ((), ("a",), ("p",), ("p", "q")))
        self.same(list(verdict.misses), [("a",)])
        self.same(len(verdict.misses[("a",)][0].split(" ")), 3)
        self.same(judge(PLAIN, X).follows, True)
        verdict = judge(X, PLAIN)
        self.same([verdict.safe, len(verdict.misses[()][0].split(" "))], [(), 3])
        self.same(judge(Chain(Same("a b = p q")), PLAIN).follows, True)

    def test_words_that_the_asker_leaves_away(self):
        self.same(judge(PLAIN, Chain(Stop("on"))).follows, True)
        self.same(judge(PLAIN, Chain(Drop("on"))).safe, ())
        # A word counts one place at one end and none at the other; so does a block of such words alone.
        for writer, asker in [
                (X, Chain(Drop("on"))), (Chain(Drop("on")), Chain(Stop("on"))),
                (read("same o u = on"), Chain(Stop("o", "u", "on"))), (read("same on = o o"), Chain(Stop("on", "o")))]:
            verdict = judge(writer, asker)
            self.same([verdict.safe, list(verdict.misses)], [(), list(beginnings(writer))])

    def test_editions_do_not_chain(self):
        kept, first = Chain(Same("car = auto")), Chain(Same("auto = car", keep=False))
        self.same([bool(judge(PLAIN, kept)), bool(judge(kept, first)), bool(judge(PLAIN, first))], [True, True, False])

    def test_rules_of_one_length(self):
        dice = random.Random(74)
        for _ in range(40):
            rules = []
            for _ in range(dice.randint(1, 2)):
                length = dice.randint(1, 3)
                rules.append(" = ".join(
                    " ".join(dice.choice("abc") for _ in range(length)) for _ in range(dice.randint(2, 3))))
            asked = [" = ".join(" ".join(dice.choice("abc") for _ in range(dice.randint(1, 2))) for _ in range(2))]
            for steps in [(), (Stop("e"),), (Swap(d="a"), Stem("s"))]:
                writer = Chain(*steps, Same(*rules))
                self.same(judge(writer, writer.bare()).follows, True)
                self.same(judge(writer, writer.with_rules(*asked)).follows, True)
                self.same(judge(writer.bare(), writer.with_rules(*asked)).follows, True)

    def test_a_side_with_a_longer_one_beside_it(self):
        for rule, start in [
                ("a b = p q r", ("a",)), ("a = p q", ()), ("a b c = d e f g", ("a", "b")), ("a b = c = d e f", ("a",)),
                ("a b = b a b", ("a",))]:
            verdict = judge(Chain(Same(rule)), PLAIN)
            self.same(verdict.is_safe(start), False)
        york = Chain(Same("york = new york"))
        self.same([list(home.missed(york, PLAIN, text)) for text in ["york x", "x york x"]], [[], [(0, 2)]])

    def test_equal_chains_that_keep_words(self):
        dice = random.Random(75)
        for _ in range(60):
            chain = models.some_chain(dice, letters="abc", most_words=4, rules=1)
            if chain.keep and models.many_entries(chain) <= 12:
                self.same(judge(chain, chain).is_safe(()), True)


if __name__ == "__main__":
    unittest.main()
