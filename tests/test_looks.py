import itertools
import random
import unittest

from quotehome.begun import beginnings
from quotehome.chains import Chain
from quotehome.errors import NoBeginning
from quotehome.judging import judge
from quotehome.kinds import like
from quotehome.looks import shows_missed, shows_safe
from quotehome.rows import end_row, first_row, last_row, read_row, row_of
from quotehome.kinds import kinds
from quotehome.rules import Same
from quotehome.steps import Drop, Stem, Stop, Swap
from tests import models
from tests.helper import Case, any_values, nested

X = Chain(Same("a b = p q r"))
PLAIN = Chain()
ONE = Chain(Stop("o"), Same("a o b = c d e"))
PAIRS = [
    (X, X), (PLAIN, X), (PLAIN, PLAIN), (X, PLAIN), (ONE, ONE), (ONE, ONE.bare()), (PLAIN, Chain(Stop("o"))),
    (Chain(Same("a = b c", "b c = a")),) * 2, (Chain(Same("a a = b")),) * 2,
    (Chain(Swap(d="a"), Same("a b = c d")),) * 2,
    (Chain(Stem("s"), Same("a b = c", "b = d e")),) * 2, (Chain(Drop("o"), Same("a = b")),) * 2,
]


def is_table(writer, asker, start, rows):
    """A second model of tables: the words of the document, with all tuples in one list."""
    known = kinds(writer, asker)

    def integers(values):
        return all(type(value) is int for value in values)

    def covers(part, row):
        if type(part) is not tuple or len(part) != 5 or type(part[0]) is not tuple or type(part[4]) is not tuple:
            return False
        words, out, begin, end, live = part
        if not integers([out, begin, end]) or not integers(live) or (out, begin, end) != row[1:4]:
            return False
        if list(live) != sorted(set(live)) or bool(live) != bool(row[4]) or not set(live) <= set(row[4]):
            return False
        if not all(isinstance(word, str) and word.isalpha() and word.islower() and len(word) < 11 for word in words):
            return False
        stop = len(words) if end == -1 else end
        told = [
            models.standing(writer, asker, known, word, out <= index < stop) for index, word in enumerate(words)]
        return tuple(told) == row[0]

    left, met = [first_row(writer, asker, start)], []
    while left:
        row = left.pop()
        covering = [part for part in rows if covers(part, row)]
        if not covering:
            return False
        for part in covering:
            if part not in met:
                met.append(part)
                answers = [read_row(writer, asker, part, word) for word in known]
                answers.append((end_row if part[3] == -1 else last_row)(writer, asker, part))
                if False in answers:
                    return False
                left += [answer for answer in answers if answer is not True]
    return True


class SafeTest(Case):
    def safe(self, answer, writer, asker, start, rows):
        self.same(shows_safe(writer, asker, start, rows), answer)

    def test_the_rows_of_verdicts(self):
        dice = random.Random(81)
        pairs = PAIRS + [models.small_pair(dice, letters="abce", most_words=4, rules=2) for _ in range(60)]
        for writer, asker in pairs:
            verdict = judge(writer, asker)
            for start in beginnings(writer):
                for rows in [verdict.rows, verdict.rows[::-1], verdict.rows * 2]:
                    self.safe(verdict.is_safe(start), writer, asker, start, rows)
                self.safe(False, writer, asker, start, list(verdict.rows))
                self.safe(False, writer, asker, start, ())
                self.safe(False, writer, asker, start, (verdict.rows,))

    def test_by_name_and_by_position(self):
        rows = judge(X, X).rows
        for start, answer in [((), True), (("a",), False), (("p", "q"), True)]:
            self.gives(answer, shows_safe, writer=X, asker=X, begun=start, rows=rows)

    def test_without_a_row(self):
        seen = {True: 0, False: 0}
        for writer, asker in PAIRS[:8]:
            verdict = judge(writer, asker)
            for start in verdict.safe:
                for index in range(len(verdict.rows)):
                    rows = verdict.rows[:index] + verdict.rows[index + 1:]
                    answer = is_table(writer, asker, start, rows)
                    self.safe(answer, writer, asker, start, rows)
                    seen[answer] += 1
        self.assertGreater(min(seen.values()), 20)

    def test_changed_rows(self):
        dice = random.Random(82)
        seen = {True: 0, False: 0}
        for writer, asker in PAIRS * 14:
            verdict = judge(writer, asker)
            rows = [self.changed(dice, writer, asker, row) for row in verdict.rows]
            dice.shuffle(rows)
            for start in beginnings(writer):
                answer = is_table(writer, asker, start, rows)
                self.safe(answer, writer, asker, start, tuple(rows))
                seen[answer] += 1
        self.assertGreater(min(seen.values()), 20)

    def changed(self, dice, writer, asker, row):
        """Perhaps another row: with fewer live places, with others, or with other words."""
        words, out, start, end, live = row
        way = dice.random()
        if way < 0.06 and len(live) > 1:
            return (words, out, start, end, tuple(sorted(dice.sample(live, len(live) - 1))))
        if way < 0.08 and live:
            return (words, out, start, end, tuple(sorted(set(live) | {dice.randint(-5, 2)})))
        if way < 0.3 and words:
            index = dice.randrange(len(words))
            word = dice.choice(["a", "b", "c", "d", "o", "zoo", "as", "bs", "abcdefghij"])
            if dice.random() < 0.2 or like(writer, asker, word, words[index]):
                return (words[:index] + (word,) + words[index + 1:], out, start, end, live)
        if way < 0.32:
            return dice.choice([list(row), row[:4], row + (0,), (list(words),) + row[1:], row[:4] + (list(live),)])
        return row

    def test_fewer_live_places(self):
        row = ((), 0, 0, -1, (-1, 0))
        self.assertIn(row, [read_row(X, X, row, "b"), read_row(X, X, read_row(X, X, row, "a"), "b")])
        rows = judge(X, X).rows
        for live in [(0,), (-1, 0)]:
            more = rows + (((), 0, 0, -1, live),)
            self.safe(True, X, X, (), more)
        # What begins with a missed row is no table, though another tuple covers the same row.
        self.safe(False, X, X, (), rows + (((), 0, 0, -1, (-1,)),))
        # Nothing covers a row that has no such live place.
        self.safe(True, X, X, (), rows + (((), 0, 0, -1, (-2,)), ((), 0, 0, -1, (-1, 0, 1)), ((), 0, 0, -1, (0, 0))))
        self.safe(True, X, X, (), rows + (((), 0, 0, -1, (0, -1)), ((), 0, 0, -1, (-1, -1))))

    def test_an_answer_that_is_missed(self):
        # All rows are there that are come to; only answers are missed.
        for writer, asker, start in [(X, X, ("a",)), (PLAIN, Chain(Swap(a="b")), ()), (Chain(Swap(a="b")), PLAIN, ())]:
            rows = self.all_rows(writer, asker, start)
            self.assertLess(len(rows), 200)
            self.safe(False, writer, asker, start, rows)
            self.safe(False, writer, asker, start, rows[::-1])

    def test_no_live_places(self):
        rows = judge(PLAIN, PLAIN).rows
        self.assertIn(((), 0, 0, -1, ()), rows)
        others = tuple(row for row in rows if row != ((), 0, 0, -1, ()))
        self.safe(False, PLAIN, PLAIN, (), others)
        self.safe(False, PLAIN, PLAIN, (), others + (((), 0, 0, -1, (0,)),))
        # A row with live places is not covered by one without any.
        others = tuple(row for row in rows if row[4] == ())
        self.safe(False, PLAIN, PLAIN, (), others)

    def test_true_is_not_one(self):
        rows = judge(X, X).rows
        for index, row in enumerate(rows):
            if 1 in row[1:4] or 0 in row[1:4]:
                told = tuple(bool(part) if part in (0, 1) and type(part) is int else part for part in row)
                changed = rows[:index] + (told,) + rows[index + 1:]
                self.safe(is_table(X, X, (), changed), X, X, (), changed)
                self.safe(True, X, X, (), rows + (told,))
        zero = [row for row in rows if 0 in row[4]][0]
        self.safe(True, X, X, (), rows + (zero[:4] + ((False,),),))
        first = rows.index(first_row(X, X, ("p",)))
        told = (("p",), True, 1, -1, ())
        self.safe(False, X, X, ("p",), rows[:first] + (told,) + rows[first + 1:])

    def test_any_values(self):
        rows = judge(X, X).rows
        for value in any_values() + [nested(3), ((),) * 2000, (rows, rows)]:
            self.safe(False, X, X, (), value)
            self.safe(True, X, X, (), rows + (value,))
            self.safe(True, X, X, (), (value,) + rows)
            for index in range(5):
                row = rows[3][:index] + (value,) + rows[3][index + 1:]
                for told in [rows + (row,), rows[:3] + (row,) + rows[4:]]:
                    self.safe(is_table(X, X, (), told), X, X, (), told)
            inside = (((value,), 0, 0, -1, ()), ((), 0, 0, -1, (value,)), (("a", value), 0, 0, -1, ()))
            self.safe(True, X, X, (), rows + tuple(row for row in inside if row[4] not in [(0,), (-1,)]))

    def test_a_row_that_is_told_very_often(self):
        # Thousands of words that are of one kind.
        asker = Chain(Same("a b c = d"))
        verdict = judge(PLAIN, Chain(Stop("o"), Same("a o b = d")))
        asker = verdict.asker
        words = ["".join(letters) for letters in itertools.product("mnpqrstuv", repeat=4)]
        rows = [row for row in verdict.rows if row[0] == ("a",) and row[3] == -1]
        self.assertTrue(rows)
        other = Chain(Stop(*words[:20]), Same("a %s b = d" % words[0]))
        told = judge(PLAIN, other)
        self.same(told.follows, True)
        holes = [row for row in told.rows if len(row[0]) == 2]
        more = tuple((row[0][:1] + (word,),) + row[1:] for row in holes for word in words[:20])
        self.safe(True, PLAIN, other, (), told.rows + more)
        self.safe(True, PLAIN, other, (), more + tuple(row for row in told.rows if row not in holes))
        outside = tuple((("a", word), 0, 0, -1, ()) for word in words)
        self.safe(True, PLAIN, asker, (), verdict.rows + outside)

    def test_very_many_live_places(self):
        writer, asker = Chain(Same("a = q q q q")), Chain(Same("a a a a = q"))
        row = row_of(writer, asker, "a a a a", 0)
        self.same(row[4], tuple(range(-15, 1)))
        many = [row[:4] + (live,) for size in (8, 1) for live in itertools.combinations(row[4], size)]
        self.same(len(many), 12886)
        first = first_row(writer, asker, ())
        self.same(shows_safe(writer, asker, (), tuple([first] + many)), False)
        rows = judge(PLAIN, PLAIN).rows
        self.safe(True, PLAIN, PLAIN, (), rows * 5000)
        self.safe(True, PLAIN, PLAIN, (), rows + tuple(((), 0, 0, -1, (-k, 0)) for k in range(1, 20000)))

    def test_all_live_places_that_are_some_of_those_of_a_row(self):
        # Behind each word all places of the row of its block are live, and each may be told alone.
        chain = Chain(Same("a = b = c"))
        for writer, asker in [(chain, chain), (Chain(Same("a a = b b")),) * 2, (ONE, ONE)]:
            verdict = judge(writer, asker)
            more = []
            for row in self.all_rows(writer, asker, verdict.safe[0]):
                for size in range(1, len(row[4]) + 1):
                    more += [row[:4] + (live,) for live in itertools.combinations(row[4], size)]
            for rows in [verdict.rows + tuple(more), tuple(more) + verdict.rows]:
                self.safe(is_table(writer, asker, verdict.safe[0], rows), writer, asker, verdict.safe[0], rows)

    def all_rows(self, writer, asker, start):
        """All rows that are come to from a beginning."""
        found, left = {}, [first_row(writer, asker, start)]
        while left:
            row = left.pop()
            if isinstance(row, tuple) and row not in found:
                found[row] = True
                left += [read_row(writer, asker, row, word) for word in kinds(writer, asker)]
                left.append((end_row if row[3] == -1 else last_row)(writer, asker, row))
        return tuple(found)

    def test_much_that_is_no_row(self):
        rows = judge(X, X).rows
        self.safe(True, X, X, (), rows + (("a", 1),) * 100000)
        self.safe(True, X, X, (), rows + ((("a",) * 100000, 0, 0, -1, ()),))
        self.safe(True, X, X, (), rows + (((), 0, 0, -1, tuple(range(5, 100005))),))
        self.safe(False, X, X, (), ((),) * 200000)

    def test_no_beginning(self):
        rows = judge(X, X).rows
        for value in any_values() + [["a"], ("b",), ("a", "b"), ("p", "q", "r"), "a"]:
            if value not in [(), ("a",)]:
                for told in [rows, None, [rows]]:
                    self.fails_in_all_ways(NoBeginning, [value], shows_safe, writer=X, asker=X, begun=value, rows=told)
                for miss in [("a b c", 1, 2), None, 7]:
                    self.fails_in_all_ways(
                        NoBeginning, [value], shows_missed, writer=X, asker=X, begun=value, miss=miss)

    def test_more_entries_than_are_judged(self):
        chain = Chain(Same("a b c d = e f g h", "i j k l = m n o p", "q r s t = u v w x", "y = z"))
        self.safe(False, chain, PLAIN, (), ())
        self.safe(False, chain, PLAIN, (), (first_row(chain, PLAIN, ()),))
        self.safe(True, chain, PLAIN, (), self.all_rows(chain, PLAIN, ()))


class MissedTest(Case):
    def missed(self, answer, writer, asker, start, miss):
        self.gives(answer, shows_missed, writer=writer, asker=asker, begun=start, miss=miss)

    def test_the_misses_of_verdicts(self):
        dice = random.Random(83)
        for writer, asker in PAIRS + [models.small_pair(dice, letters="abce", rules=2) for _ in range(60)]:
            verdict = judge(writer, asker)
            for start, miss in verdict.misses.items():
                self.same(shows_missed(writer, asker, start, miss), True)
                for other in beginnings(writer):
                    if other != start:
                        self.same(shows_missed(writer, asker, other, miss), False)
                for wrong in [list(miss), miss[:2], miss + (0,), (miss[0], miss[1], miss[2] + 99)]:
                    self.same(shows_missed(writer, asker, start, wrong), False)

    def test_not_only_least_ones(self):
        for miss, answer in [
                (("a b c", 1, 2), True), (("a b zz x", 1, 3), True), (("a b zz x", 1, 2), True),
                (("a b p q r", 1, 4), True), (("a b c", 0, 2), False), (("a b c", 1, 1), False),
                (("a b c", 2, 2), False), (("c a b x", 2, 3), False), (("b b c", 1, 2), False),
                (("a c b", 1, 2), False), (("a b", 1, 1), False), (("a b c", 1, 3), False), (("a b c", 1, 0), False)]:
            self.missed(answer, X, X, ("a",), miss)
        self.missed(True, X, PLAIN, (), ("a b c", 0, 2))
        self.missed(True, X, PLAIN, ("p", "q"), ("p q a b c", 2, 4))

    def test_words_with_the_results_of_a_beginning(self):
        writer = Chain(Stop("o", "u"), Stem("s"), Same("aa o bb = c d e f"))
        asker = Chain(Stop("o", "u"), Stem("s"))
        for text, answer in [
                ("aas u bbs x", True), ("aa o bb x", True), ("aa bb bb x", False), ("o o bb x", False)]:
            self.missed(answer, writer, asker, ("aa", "*"), (text, 2, 3))

    def test_any_values(self):
        for value in any_values():
            self.missed(False, X, X, ("a",), value)
            self.same(shows_missed(X, X, ("a",), (value, 1, 2)), False)
            self.same(shows_missed(X, X, ("a",), ("a b c", value, 2)), value == 1 and value is not True)
            self.same(shows_missed(X, X, ("a",), ("a b c", 1, value)), False)
        for miss in [("a b c", True, 2), ("a b c", 1, True), ("a b c ", 1, 2), ("a  b c", 1, 2), ("a b C", 1, 2)]:
            self.missed(False, X, X, ("a",), miss)

    def test_where_very_much_is_handed_in(self):
        text = " ".join(["a b"] + ["c"] * 1998)
        self.same(shows_missed(X, X, ("a",), (text, 1, 1999)), True)
        self.same(shows_missed(X, X, (), (text, 0, 1999)), False)
        self.same(shows_missed(X, X, (), ("a",) * 200000), False)


class ExamplesTest(Case):
    def test_the_examples(self):
        verdict = judge(Chain(Same("a b = p q r")), Chain(Same("a b = p q r")))
        writer, asker = verdict.writer, verdict.asker
        self.same(
            [shows_missed(writer, asker, ("a",), ("a b zz x", 1, 3)), shows_safe(writer, asker, (), verdict.rows),
             shows_safe(writer, asker, ("a",), verdict.rows)], [True, True, False])
        more = verdict.rows + ("more", ((), 5, 0, 0, 7))
        self.same(
            [shows_missed(writer, asker, ("a",), ("c a b x", 2, 3)), shows_safe(writer, asker, (), more)],
            [False, True])


if __name__ == "__main__":
    unittest.main()
