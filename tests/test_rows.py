import itertools
import random
import unittest

from quotehome.begun import beginnings, begun
from quotehome.chains import Chain
from quotehome.errors import InvalidText, NoBeginning, NoWord
from quotehome.home import found
from quotehome.kinds import kinds, like
from quotehome.rows import end_row, first_row, last_row, read_row, row_of
from quotehome.rules import Same
from quotehome.steps import Drop, Stem, Stop, Swap
from tests import models
from tests.helper import Case, any_values

X = Chain(Same("a b = p q r"))
PLAIN = Chain()
BANK = Chain(Stop("of", "the"), Same("bank of england = boe"))
KINDS = kinds(X, X)
OTHER = next(word for word in KINDS if word not in "abpqr")


def text_ahead(text, many):
    return " ".join(text.split(" ")[:many])


class RowsCase(Case):
    def read(self, writer, asker, text, first, known=None):
        """The rows of a text read word by word, from a quote's first word on, are those of the texts ahead.

        Yields for each number of words the row of the quote that goes on; the last one may be False.
        """
        row = first_row(writer, asker, begun(writer, text, first))
        self.same(row, row_of(writer, asker, text_ahead(text, first), first))
        many = len(text.split(" ")) if text else 0
        for number in range(first, many + 1):
            if number > first:
                row = read_row(writer, asker, row, text.split(" ")[number - 1])
                self.same(row, row_of(writer, asker, text_ahead(text, number), first))
            if known is not None:
                self.same(row, models.row_of(writer, asker, text_ahead(text, number), first, None, known))
            yield number, row
            if row is False:
                return

    def read_on(self, writer, asker, text, first, last, row, known=None):
        """The rows behind a quote's end, if words are read to the end of the text, tell what found tells."""
        row = end_row(writer, asker, row)
        many = len(text.split(" "))
        for number in range(last + 1, many + 1):
            if number > last + 1 and isinstance(row, tuple):
                row = read_row(writer, asker, row, text.split(" ")[number - 1])
            ahead = text_ahead(text, number)
            self.same(row_of(writer, asker, ahead, first, last), row)
            if known is not None:
                self.same(models.row_of(writer, asker, ahead, first, last, known), row)
            told = last_row(writer, asker, row) if isinstance(row, tuple) else row
            self.same(found(writer, asker, ahead, first, last), told)

    def read_all(self, writer, asker, text, known=None):
        """All quotes of a text, word by word; returns the numbers of rows, of those that go on and of those ended."""
        many = len(text.split(" ")) if text else 0
        for first in range(many + 1):
            for number, row in self.read(writer, asker, text, first, known):
                if row is False:
                    for last in range(number - 1, many):
                        self.same(found(writer, asker, text, first, last), False)
                elif number == first:
                    self.same(end_row(writer, asker, row), True)
                else:
                    self.read_on(writer, asker, text, first, number - 1, row, known)


class FirstRowTest(RowsCase):
    def first(self, row, writer, asker, start):
        self.gives(row, first_row, writer=writer, asker=asker, begun=start)

    def test_each_beginning(self):
        self.first(((), 0, 0, -1, ()), X, X, ())
        self.first((("a",), 1, 1, -1, ()), X, X, ("a",))
        self.first((("p",), 1, 1, -1, ()), X, PLAIN, ("p",))
        self.first((("p", "q"), 2, 2, -1, ()), X, PLAIN, ("p", "q"))
        self.first(((), 0, 0, -1, ()), PLAIN, X, ())

    def test_words_with_these_results(self):
        chain = Chain(Stem("s"), Same("cat dog = pet"))
        row = first_row(chain, chain, ("cat",))
        self.same([chain.result(word) for word in row[0]], ["cat"])
        self.assertIn(row[0][0], kinds(chain, chain))
        row = first_row(BANK, PLAIN, ("bank", "*"))
        self.same([BANK.result(word) for word in row[0]], ["bank", "*"])
        self.same(row[1:], (2, 2, -1, ()))
        known = kinds(BANK, PLAIN)
        self.same(row[0][1], [word for word in known if BANK.result(word) == "*"][0])

    def test_many_chains(self):
        dice = random.Random(61)
        for _ in range(40):
            writer, asker = models.some_pair(dice, most_words=4)
            known = kinds(writer, asker)
            for start in beginnings(writer):
                text = " ".join(
                    next(word for word in "abcdefg" if writer.result(word) == entry) for entry in start)
                row = first_row(writer, asker, start)
                self.same(row, row_of(writer, asker, text, len(start)))
                self.same(row, models.row_of(writer, asker, text, len(start), None, known))

    def test_other_values(self):
        for value in any_values() + [["a"], "a", ("a", "b"), ("b",), ("p", "q", "r"), (), ("p", None)]:
            if value != ():
                self.fails_in_all_ways(NoBeginning, [value], first_row, writer=PLAIN, asker=X, begun=value)
                if value != ("a",):
                    self.fails_in_all_ways(NoBeginning, [value], first_row, writer=X, asker=PLAIN, begun=value)


class ReadRowTest(RowsCase):
    def row(self, answer, text, first, last=None, writer=X, asker=X):
        self.gives(answer, row_of, writer=writer, asker=asker, text=text, first=first, last=last)

    def test_words_of_the_writer_that_wait(self):
        self.row((("a",), 0, 0, -1, ()), "a", 0)
        self.row((("p", "q"), 0, 0, -1, ()), "p q", 0)
        self.row((("p", "q"), 1, 1, -1, ()), "c p q", 2)
        self.row((("p", "q"), 2, 2, -1, ()), "c p q", 3)
        self.row(((), 0, 0, -1, (0,)), "c", 0)
        self.row((("a",), 0, 0, -1, (0,)), "c a", 0)

    def test_live_places(self):
        self.row(((), 0, 0, -1, (-1, 0)), "a b", 0)
        self.row(((), 0, 0, -1, (-1, 0)), "p q r", 0)
        self.row(((), 0, 0, -1, (0,)), "p q r", 0, None, X, PLAIN)
        self.row(((), 0, 0, -1, (-1,)), "a b", 1)
        self.row((("p",), 0, 0, -1, (-1,)), "a b p", 1)
        self.row(((), 0, 0, -1, (-1, 0)), "c a b", 1)

    def test_the_asker_waits_for_longer(self):
        asker = Chain(Same("a b c = d"))
        # The writer has decided the words, and the asker has not.
        self.row(((), 0, 0, -1, (0,)), "x", 0, None, PLAIN, asker)
        row = row_of(PLAIN, asker, "x a b", 0)
        self.same(row, (("a", "b"), 0, 0, -1, (0,)))
        self.same(read_row(PLAIN, asker, row, "c"), ((), 0, 0, -1, (0,)))
        self.same(end_row(PLAIN, asker, row), True)

    def test_holes_ahead_of_the_first_word_count_nothing(self):
        stop = Chain(Stop("on"))
        self.row(((), 0, 0, -1, ()), "on on", 0, None, PLAIN, stop)
        self.row(((), 0, 0, -1, (0,)), "on on cat", 0, None, PLAIN, stop)
        self.row(((), 0, 0, -1, (0,)), "cat on on", 0, None, PLAIN, stop)
        self.row(((), 0, 0, -1, (1,)), "cat on", 0, None, Chain(Drop("on")), stop)
        self.row(((), 0, 0, -1, (-2,)), "cat on on", 0, None, PLAIN, Chain(Drop("on")))

    def test_a_quote_inside_of_a_block(self):
        # The asker's block of b and what follows is not settled, since b may go on in the asker.
        asker = Chain(Same("b x = y"))
        self.row((("a", "b"), 1, 1, -1, ()), "a b", 1, None, X, asker)
        self.row(False, "a b zz c", 1, None, X, asker)

    def test_a_quote_that_has_ended(self):
        self.row((("a",), 0, 0, 1, ()), "a", 0, 0)
        self.row((("p", "q"), 0, 0, 1, ()), "p q", 0, 0)
        self.row((("p", "q"), 0, 0, 2, ()), "p q", 0, 1)
        self.row((("p", "q"), 1, 1, 2, ()), "p q", 1, 1)
        self.row(True, "p q r", 0, 0)
        self.row(True, "p q c", 1, 1)
        self.row((("a",), 0, 0, 1, (0,)), "c a", 0, 1)

    def test_missed_while_it_goes_on(self):
        self.row(False, "a b c", 1)
        self.row(False, "a b c p q r", 1)
        self.row(False, "cat", 0, None, PLAIN, Chain(Swap(cat="dog")))
        self.row(False, "cat on mat", 0, None, PLAIN, Chain(Drop("on")))

    def test_found_whatever_follows(self):
        self.row(True, "a b c", 0, 2)
        self.row(True, "a b c p", 0, 1)
        self.row(True, "on on", 0, 1, PLAIN, Chain(Stop("on")))

    def test_a_quote_that_ends_ahead_of_its_first_word(self):
        for writer, asker in [(X, X), (X, PLAIN), (PLAIN, X), (BANK, X)]:
            for start in beginnings(writer):
                row = first_row(writer, asker, start)
                self.gives(True, end_row, writer=writer, asker=asker, row=row)

    def test_words_ahead_of_a_quote_and_behind_it(self):
        # Only the writer tells the words outside of a quote from one another.
        writer = Chain(Swap(x="y"), Same("a x b = c"))
        alike = [word for word in kinds(writer, PLAIN) if writer.result(word) == "y"]
        self.same(len(alike), 2)
        self.same([row_of(writer, PLAIN, "a " + word, 1)[0][1] for word in alike], alike)
        self.same([row_of(writer, PLAIN, "a " + word, 2)[0][1] for word in alike], [alike[0]] * 2)
        self.same([row_of(writer, PLAIN, "a " + word, 0, 0)[0][1] for word in alike], [alike[0]] * 2)
        self.same([row_of(writer, PLAIN, "a " + word, 0, 1)[0][1] for word in alike], alike)
        holes, asker = Chain(Stop("d", "e", "f"), Same("a f b = c")), Chain(Same("d = e"))
        self.same([row_of(holes, asker, "a " + word, 2)[0][1] for word in "def"], ["d"] * 3)
        self.same([row_of(holes, asker, "a " + word, 1)[0][1] for word in "def"], ["d", "e", "f"])
        # The same, behind blocks that are no part of the row, and with a quote's end.
        for word, stands in [("d", "d"), ("e", "e"), ("f", "f")]:
            self.same(row_of(holes, asker, "x x a " + word, 2), (("a", stands), 0, 0, -1, ()))
            self.same(row_of(holes, asker, "x x a " + word, 3), (("a", stands), 1, 1, -1, ()))
            self.same(row_of(holes, asker, "x x a " + word, 4), (("a", "d"), 2, 2, -1, ()))
            self.same(row_of(holes, asker, "x x a " + word, 2, 2), (("a", "d"), 0, 0, 1, ()))
            self.same(row_of(holes, asker, "x x a " + word, 2, 3), (("a", stands), 0, 0, 2, ()))
            self.same(row_of(holes, asker, "x x a " + word, 1, 2), (("a", "d"), 0, 0, 1, (0,)))
            self.same(row_of(holes, asker, "x x a " + word, 1), (("a", stands), 0, 0, -1, (0,)))

    def test_the_examples(self):
        self.same(
            [first_row(X, X, ("a",)), read_row(X, X, first_row(X, X, ("a",)), "b")],
            [(("a",), 1, 1, -1, ()), ((), 0, 0, -1, (-1,))])
        self.same(
            [row_of(X, X, "a b zz", 1), row_of(X, X, "a b zz", 0, 2), row_of(X, X, "p q", 0)],
            [False, True, (("p", "q"), 0, 0, -1, ())])
        self.same(
            [end_row(X, X, row_of(X, X, "p q", 0)), row_of(X, X, "p q a", 0), row_of(X, X, "c p q", 3),
             end_row(X, X, first_row(X, X, ()))],
            [(("p", "q"), 0, 0, 2, ()), (("a",), 0, 0, -1, (0,)), (("p", "q"), 2, 2, -1, ()), True])
        self.same(read_row(X, X, ((), 0, 0, -1, (-1,)), "zoo"), False)

    def test_by_name_and_by_position(self):
        row = first_row(X, X, ("a",))
        self.gives(((), 0, 0, -1, (-1,)), read_row, writer=X, asker=X, row=row, word="b")
        self.gives((("p", "q"), 0, 0, 2, ()), end_row, writer=X, asker=X, row=(("p", "q"), 0, 0, -1, ()))
        self.gives(True, last_row, writer=X, asker=X, row=(("p", "q"), 0, 0, 2, ()))
        # What was found ends two places ahead of p; and then one place ahead, and so at home.
        self.gives(False, last_row, writer=X, asker=X, row=(("p", "q"), 0, 0, 2, (-1,)))
        self.gives(True, last_row, writer=X, asker=X, row=(("p", "q"), 0, 0, 2, (-1, 0)))

    def test_long_texts(self):
        self.row((("a",), 0, 0, -1, (0,)), " ".join(["c"] * 1999 + ["a"]), 0)
        self.row(((), 0, 0, -1, (-1000,)), " ".join(["c"] + ["on"] * 1000), 0, None, PLAIN, Chain(Drop("on")))


class AgainstEachOtherTest(RowsCase):
    def test_some_texts(self):
        for writer, asker in [(X, X), (X, PLAIN), (PLAIN, X), (BANK, BANK), (BANK, PLAIN)]:
            for text in ["", "a b c p q r", "p q a b", "bank of the boe", "bank of england x", "a p q p q r b"]:
                self.read_all(writer, asker, text, kinds(writer, asker))

    def test_many_chains(self):
        dice = random.Random(62)
        for _ in range(60):
            writer, asker = models.some_pair(dice, most_words=dice.choice([2, 3, 4]))
            text = models.some_text(dice, 7, dice.choice(["abcdefg", "abc", "ab", "abe"]))
            self.read_all(writer, asker, text, kinds(writer, asker))

    def test_one_word_two_or_three_times(self):
        dice = random.Random(63)
        for rule in ["a a = b", "a a a = b", "a a = b c d", "a a a = a", "a a a = b c", "a a = a b"]:
            for keep in [True, False]:
                chain = Chain(Same(rule, keep=keep))
                for writer, asker in [(chain, chain), (chain, PLAIN), (PLAIN, chain)]:
                    for most in [9, 60]:
                        text = " ".join(dice.choice("aaaaaab") for _ in range(dice.randint(most - 5, most)))
                        self.some_quotes(dice, writer, asker, text)
                        self.some_quotes(dice, writer, asker, " ".join(["a"] * most))

    def some_quotes(self, dice, writer, asker, text):
        many = len(text.split(" "))
        for _ in range(3):
            first = dice.randint(0, many - 1)
            last = dice.randint(first, many - 1)
            row = first_row(writer, asker, begun(writer, text, first))
            for word in text.split(" ")[first:last + 1]:
                row = read_row(writer, asker, row, word) if row is not False else False
            row = end_row(writer, asker, row) if row is not False else False
            for word in text.split(" ")[last + 1:]:
                row = read_row(writer, asker, row, word) if isinstance(row, tuple) else row
            self.same(row_of(writer, asker, text, first, last), row)
            row = last_row(writer, asker, row) if isinstance(row, tuple) else row
            self.same(found(writer, asker, text, first, last), row)


class OtherRowsTest(RowsCase):
    def answers(self, writer, asker, row, known):
        """What is told behind each word, and behind the end."""
        told = [read_row(writer, asker, row, word) for word in known]
        return told + [end_row(writer, asker, row) if row[3] == -1 else last_row(writer, asker, row)]

    def rows(self, dice, many):
        """Chains with rows to which they come."""
        mixed = Chain(Stop("e", "f"), Swap(d="a", h="b"), Same("a e b = c", "a b c = g g", "c = a a"))
        other = Chain(Stop("e", "f"), Swap(d="a"), Same("a b = c", "b e c = g a", keep=False))
        pairs = [(mixed, mixed), (mixed, other), (other, mixed), (mixed, mixed.bare()), (mixed.bare(), mixed)]
        while many > 0:
            writer, asker = dice.choice(pairs)
            if dice.random() < 0.3:
                writer, asker = models.some_pair(dice, letters="abce", most_words=4)
            text = models.some_text(dice, 6, dice.choice(["abcdefgh", "abce"]))
            first = dice.randint(0, len(text.split(" ")) - 1 if text else 0)
            row = row_of(writer, asker, text, first)
            if isinstance(row, tuple) and dice.random() < 0.2:
                row = end_row(writer, asker, row)
            if isinstance(row, tuple):
                many -= 1
                yield writer, asker, kinds(writer, asker), row

    def test_fewer_live_places(self):
        seen = 0
        for writer, asker, known, row in self.rows(random.Random(64), 800):
            if len(row[4]) > 1:
                seen += 1
                alone = [self.answers(writer, asker, row[:4] + ((place,),), known) for place in row[4]]
                for number, answer in enumerate(self.answers(writer, asker, row, known)):
                    parts = [answers[number] for answers in alone]
                    if isinstance(answer, tuple):
                        live = {place for part in parts if part is not False for place in part[4]}
                        self.same(answer[4], tuple(sorted(live)))
                        self.assertEqual({part[:4] for part in parts if part is not False}, {answer[:4]})
                    else:
                        self.same(answer, True in parts)
        self.assertGreater(seen, 20)

    def test_other_words_for_which_the_same_ones_stand(self):
        dice = random.Random(65)
        tried = list("abcdefgh") + ["zoo", "abcdefghij"]
        changed = 0
        for writer, asker, known, row in self.rows(dice, 400):
            words = list(row[0])
            end = len(words) if row[3] == -1 else row[3]
            for index, word in enumerate(words):
                is_asked = row[1] <= index < end
                words[index] = dice.choice([
                    other for other in tried + [word]
                    if models.standing(writer, asker, known, other, is_asked) == word])
            changed += words != list(row[0])
            other = (tuple(words),) + row[1:]
            self.same(self.answers(writer, asker, other, known), self.answers(writer, asker, row, known))
        self.assertGreater(changed, 15)

    def test_words_of_one_kind(self):
        tried = list("abcdefgh") + ["zoo", "abcdefghij"]
        for writer, asker, known, row in self.rows(random.Random(66), 60):
            for word in known:
                for other in tried:
                    if like(writer, asker, word, other):
                        self.same(read_row(writer, asker, row, other), read_row(writer, asker, row, word))

    def test_the_same_row_behind_other_texts(self):
        row = row_of(X, X, "a b", 1)
        for text, first in [("c a b", 2), ("zz p q r a b", 5), ("p p a b", 3)]:
            self.same(row_of(X, X, text, first), row)

    def test_stems_and_swaps(self):
        chain = Chain(Stem("s"), Swap(pup="dog"), Same("cat dog = pet"))
        known = kinds(chain, PLAIN)
        for text in ["cats pups x", "cat dogs pets cats", "pup cat pups pets dogs"]:
            self.read_all(chain, PLAIN, text, known)
            self.read_all(chain, chain, text, kinds(chain, chain))
            self.read_all(PLAIN, chain, text, kinds(PLAIN, chain))


class FactsTest(RowsCase):
    def test_from_a_safe_beginning_few_rows_are_come_to(self):
        rows = {first_row(X, X, ())}
        left = list(rows)
        while left:
            row = left.pop()
            answers = [read_row(X, X, row, word) for word in KINDS]
            answers.append(end_row(X, X, row) if row[3] == -1 else last_row(X, X, row))
            self.assertNotIn(False, answers)
            new = {answer for answer in answers if answer is not True} - rows
            rows |= new
            left += new
            self.assertLess(len(rows), 100)
        self.assertIn(((), 0, 0, -1, (-1, 0)), rows)

    def test_of_the_document(self):
        self.same(first_row(X, X, ("a",)), (("a",), 1, 1, -1, ()))
        self.same(read_row(X, X, first_row(X, X, ("a",)), "b"), ((), 0, 0, -1, (-1,)))
        for word in ["c", "zoo", OTHER]:
            self.same(read_row(X, X, ((), 0, 0, -1, (-1,)), word), False)

    def test_all_short_texts(self):
        for many in range(4):
            for words in itertools.product(["a", "b", "p", OTHER], repeat=many):
                self.read_all(X, X, " ".join(words))
                self.read_all(X, PLAIN, " ".join(words))


class ErrorsTest(RowsCase):
    def wrong(self, error, fields, text, first, last):
        self.fails_in_all_ways(error, fields, row_of, writer=X, asker=PLAIN, text=text, first=first, last=last)

    def test_wrong_texts(self):
        for text, index in [(" ", 0), ("a ", 1), ("a  b", 1), ("a b C", 2), ("abcdefghijk", 0)]:
            self.wrong(InvalidText, [index], text, 0, None)
        for value in any_values():
            if not isinstance(value, str):
                self.wrong(InvalidText, [0], value, 0, None)

    def test_wrong_first_numbers(self):
        for value in any_values() + [3, -1, "0"]:
            if value is True or value is False or value not in (0, 1, 2):
                self.wrong(NoWord, [value], "a b", value, None)
                self.wrong(NoWord, [value], "a b", value, 1)
        self.wrong(NoWord, [1], "", 1, None)
        self.same([row_of(X, PLAIN, "", 0), row_of(X, PLAIN, "a b", 2)], [((), 0, 0, -1, ())] * 2)

    def test_wrong_last_numbers(self):
        for value in any_values() + [2, -1, "1"]:
            if value is not None and (value is True or value is False or value not in (0, 1)):
                self.wrong(NoWord, [value], "a b", 0, value)
                self.wrong(NoWord, [value], "a b", 2, value)
        self.wrong(NoWord, [0], "a b", 1, 0)
        self.wrong(NoWord, [1], "a b", 2, 1)
        self.wrong(NoWord, [0], "", 0, 0)

    def test_several_errors(self):
        for value in any_values():
            self.wrong(InvalidText, [1], "a ", value, value)
            if value is True or value is False or value not in (0, 1, 2):
                self.wrong(NoWord, [value], "a b", value, "x")
                self.wrong(NoWord, [None], "a b", None, value)


if __name__ == "__main__":
    unittest.main()
