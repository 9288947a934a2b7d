import itertools
import random
import unittest

from quotehome.begun import begun
from quotehome.chains import Chain
from quotehome.errors import InvalidChain, InvalidText, NoWord, TooMany
from quotehome.home import missed
from quotehome.judging import judge
from quotehome.mender import mend
from quotehome.rules import Same
from quotehome.starts import snap
from quotehome.steps import Drop, Stem, Stop, Swap
from tests import models
from tests.helper import Case, any_values

PLAIN = Chain()
X = Chain(Same("a b = p q r"))
LARGE = Chain(Same("a b c d = e f g h", "i j k l = m n o p", "q r s t = u v w x", "y = y"))


def texts(chain):
    """The rules of a chain as they are written."""
    return [" = ".join(" ".join(side) for side in rule) for rule in chain.steps[-1].rules] if chain.rules else []


def moved(writer, asker, numbers):
    """A second model of moving rules."""
    rules, asked = texts(writer), texts(asker)
    kept = [rule for number, rule in enumerate(rules) if number not in numbers]
    for number in numbers:
        asked += [rules[number]] if rules[number] not in asked else []
    return Chain(*writer.bare().steps, *([Same(*kept)] if kept else [])), Chain(
        *asker.bare().steps, *([Same(*asked)] if asked else []))


class MendTest(Case):
    def check(self, writer, asker):
        """The fewest rules are moved, of as many the least numbers, held against all sets of rules."""
        numbers, mended, asking, misses = answer = mend(writer, asker)
        self.same(type(answer), tuple)
        many = len(texts(writer))
        sets = [chosen for size in range(many + 1) for chosen in itertools.combinations(range(many), size)]
        good = [chosen for chosen in sets if judge(*moved(writer, asker, chosen))]
        self.same(numbers, good[0])
        self.same([str(mended), str(asking)], [str(chain) for chain in moved(writer, asker, numbers)])
        self.same(judge(mended, asking).follows, True)
        self.same(list(misses), sorted(chosen for chosen in sets if len(chosen) < len(numbers)))
        for chosen, miss in misses.items():
            text, first, last = miss
            self.same([type(part) for part in miss], [str, int, int])
            other, asked = moved(writer, asker, chosen)
            self.assertIn((first, last), models.missed(other, asked, text))
            start = begun(other, text, first)
            self.same(first, len(start))
            self.same(tuple(other.result(word) for word in text.split(" ")[:first]), start)
        again = mend(mended, asking)
        self.same([again[0], str(again[1]), str(again[2]), again[3]], [(), str(mended), str(asking), {}])
        self.same(strict_told(mend(writer=writer, asker=asker)), strict_told(answer))
        return numbers

    def test_many_chains(self):
        dice = random.Random(111)
        seen = {}
        for _ in range(60):
            steps = dice.choice([(), (), (Stop("e"),), (Swap(d="a"),), (Drop("e"),), (Stem("s"),)])
            longest = 1 if steps and isinstance(steps[0], Drop) else dice.choice([2, 3])
            chains = []
            for most in (4, 2):
                rules = [
                    " = ".join(" ".join(dice.choice("abcdf") for _ in range(dice.randint(1, longest)))
                               for _ in range(2)) for _ in range(dice.randint(0, most))]
                chains.append(Chain(*steps, *([Same(*rules)] if rules else [])))
            if sum(map(models.many_entries, chains)) <= 24:
                numbers = self.check(*chains)
                seen[len(numbers)] = seen.get(len(numbers), 0) + 1
        self.assertGreater(min(seen.get(size, 0) for size in range(3)), 2)

    def test_which_rules_are_moved(self):
        for rules, asked, numbers in [
                ([], [], ()), (["a = b"], [], ()), (["a b = c"], [], (0,)), (["a = b", "a b = c", "d = e"], [], (1,)),
                (["a b = c", "d e = f"], [], (0, 1)), (["a = b", "c = d e", "f = g h"], ["a = b"], (1, 2)),
                # A rule that both have need not be moved if its longest side is asked, too.
                (["a = b c", "d = e", "a = b c"], [], (0,)), (["a b = p q r", "d = e", "a b = p q r"], [], (0, 2))]:
            writer = PLAIN.with_rules(*rules)
            self.same(self.check(writer, PLAIN.with_rules(*asked)), numbers)

    def test_of_as_many_rules_the_least_numbers(self):
        # Two rules make the same block; it is enough to move one of them if the other one is of one length.
        writer = Chain(Same("x = y", "a b = c", "b = d"))
        self.check(writer, PLAIN)
        writer = Chain(Same("a = b", "b c = d", "c = e", "e f = a b c"))
        self.check(writer, Chain(Same("b c = d")))

    def test_rules_that_are_the_same_at_both_ends(self):
        numbers, mended, asking, misses = mend(
            Chain(Same("a b = p q r", "d = e")), Chain(Same("x = y", "a b = p q r")))
        self.same([numbers, str(mended), str(asking), list(misses)], [
            (0,), "same d = e", "same x = y\nsame a b = p q r", [()]])
        # Sides in another order are another rule, and so are words that become the same.
        numbers, mended, asking, _ = mend(X, Chain(Same("p q r = a b")))
        self.same([numbers, str(mended), str(asking)], [(0,), "", "same p q r = a b\nsame a b = p q r"])
        steps = [Swap(d="b")]
        _, mended, asking, _ = mend(Chain(*steps, *X.steps), Chain(*steps, Same("a d = p q r")))
        self.same([str(mended), str(asking)], ["swap d b", "swap d b\nsame a d = p q r\nsame a b = p q r"])
        # A rule that the writer has twice comes once.
        numbers, mended, asking, _ = mend(Chain(Same("a b = p q r", "a b = p q r")), PLAIN)
        self.same([numbers, str(mended), str(asking)], [(0, 1), "", "same a b = p q r"])

    def test_no_rules(self):
        stop = Chain(Stop("on"))
        for writer, asker in [(PLAIN, PLAIN), (PLAIN, X), (stop, stop), (stop, stop | Same("a = b c"))]:
            numbers, mended, asking, misses = mend(writer, asker)
            self.same([numbers, str(mended), str(asking), misses], [(), str(writer), str(asker), {}])
        _, mended, asking, _ = mend(stop | Same("a = b c"), stop)
        self.same([str(mended), str(asking)], ["stop on", "stop on\nsame a = b c"])
        self.same([len(mended), asking.keep], [1, True])

    def test_wrong_chains(self):
        def wrong(error, fields, writer, asker):
            self.fails_in_all_ways(error, fields, mend, writer=writer, asker=asker)

        first = Chain(Same("a = b", keep=False))
        for writer, asker in [
                (PLAIN, Chain(Stop("on"))), (Chain(Drop("on")), Chain(Stop("on"))), (first, PLAIN), (PLAIN, first),
                (first, first), (Chain(Stop("on"), Stem("s")), Chain(Stem("s"), Stop("on"))), (X, Chain(Stem("s")) | X),
                (LARGE, Chain(Stem("s")) | LARGE), (first.with_rules(*["a = b"] * 8, keep=False), LARGE)]:
            wrong(InvalidChain, ["unlike", None], writer, asker)
        six, two, three = [Chain(Same(*["a = b"] * many)) for many in (6, 2, 3)]
        seven = Chain(Same(*["a = b"] * 7))
        self.same(mend(six, two)[0], ())
        wrong(TooMany, [6], seven, PLAIN)
        wrong(TooMany, [6], seven, two)
        wrong(TooMany, [6], Chain(Same(*["a b c d = e f g h"] * 7)), LARGE)
        wrong(TooMany, [8], six, three)
        wrong(TooMany, [8], two, seven)
        wrong(TooMany, [8], six, LARGE)
        wrong(TooMany, [24], LARGE, PLAIN)
        wrong(TooMany, [24], PLAIN, LARGE)
        wrong(TooMany, [24], LARGE, LARGE)

    def test_the_dict_belongs_to_the_caller(self):
        mend(X, PLAIN)[3].clear()
        self.same(list(mend(X, PLAIN)[3]), [()])

    def test_the_example(self):
        writer = Chain(Same("a b = p q r", "car = auto"))
        numbers, mended, asking, misses = mend(writer, Chain())
        self.same([numbers, str(mended), str(asking), list(misses)], [
            (0,), "same car = auto", "same a b = p q r", [()]])
        self.check(writer, PLAIN)


def strict_told(answer):
    return [answer[0], str(answer[1]), str(answer[2]), answer[3]]


class SnapTest(Case):
    def test_each_number(self):
        dice = random.Random(112)
        for _ in range(60):
            writer, asker = models.small_pair(dice, letters="abce", most_words=4, rules=2)
            text = models.some_text(dice, 8, "abcez")
            verdict = judge(writer, asker)
            bad = {first for first, _ in missed(writer, asker, text)}
            many = len(text.split(" ")) if text else 0
            for first in range(many):
                starts = [number for number in range(first + 1) if verdict.is_safe(begun(writer, text, number))]
                answer = snap(writer, asker, text, first)
                self.same(answer, max(starts) if starts else None)
                self.assertNotIn(answer, bad)

    def test_some_numbers(self):
        for first, answer in [(0, 0), (1, 1), (2, 1), (3, 3)]:
            self.gives(answer, snap, writer=X, asker=X, text="x a b c", first=first)
        self.gives(None, snap, writer=X, asker=PLAIN, text="x a b c", first=3)

    def test_wrong_values(self):
        def wrong(error, fields, writer, asker, text, first):
            self.fails_in_all_ways(error, fields, snap, writer=writer, asker=asker, text=text, first=first)

        for value in any_values():
            for first in [0, value]:
                wrong(TooMany, [24], LARGE, PLAIN, value, first)
            if not isinstance(value, str):
                wrong(InvalidText, [0], X, X, value, value)
            if value is True or value is False or value not in (0, 1):
                wrong(NoWord, [value], X, X, "a b", value)
            wrong(NoWord, [value], X, X, "", value)
        wrong(InvalidText, [1], X, X, "a  b", 9)
        for first in [2, -1, "0", None, True]:
            wrong(NoWord, [first], X, PLAIN, "a b", first)

    def test_the_example(self):
        writer = Chain(Same("a b = p q r", "car = auto"))
        self.same([snap(writer, writer, "x a b c", 2), snap(writer, writer, "x a b c", 3)], [1, 3])


if __name__ == "__main__":
    unittest.main()
