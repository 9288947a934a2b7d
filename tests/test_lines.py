import unittest

from quotehome.chains import Chain
from quotehome.errors import InvalidChain, InvalidLine
from quotehome.rules import Same
from quotehome.steps import Drop, Stem, Stop, Swap
from tests.helper import Case, any_values

TWENTY = " ".join(chr(97 + k) for k in range(20))
TEN_PAIRS = " ".join(chr(97 + k) + " z" for k in range(10))
EIGHT = "\n".join("same " + chr(97 + k) + " = z" for k in range(8))
SIX = "\n".join(["stop x"] * 6)
FOUR = "a b c d = e f g h = i j k l = m n o p"


class WrittenAndReadTest(Case):
    def both(self, chain, text):
        """The chain writes this text, and the text is read as this chain."""
        self.same(str(chain), text)
        read = Chain.read(text)
        self.assertIs(type(read), Chain)
        self.equal_both_ways(read, chain)
        self.same([repr(step) for step in read.steps], [repr(step) for step in chain.steps])
        self.same((read.rules, read.keep), (chain.rules, chain.keep))
        self.same(str(read), text)

    def test_each_step(self):
        self.both(Chain(), "")
        self.both(Chain(Stop("on")), "stop on")
        self.both(Chain(Stop("the", "on")), "stop on the")
        self.both(Chain(Drop("the", "on")), "drop on the")
        self.both(Chain(Swap(mice="mouse", geese="goose")), "swap geese goose mice mouse")
        self.both(Chain(Swap(a="a")), "swap a a")
        self.both(Chain(Stem("s", "es")), "stem es s")
        self.both(Chain(Stem("s", "es", keep=["news", "bus"])), "stem es s - bus news")
        self.both(Chain(Same("b = a", "a b = c d e = f")), "same b = a\nsame a b = c d e = f")
        self.both(Chain(Same("b = a", "a = c", keep=False)), "first b = a\nfirst a = c")

    def test_several_steps(self):
        self.both(
            Chain(Stop("on", "the"), Stem("s"), Same("cats = big cat")), "stop on the\nstem s\nsame cats = big cat")
        self.both(
            Chain(Swap(a="b"), Drop("c"), Stop("d"), Drop("c"), Stem("s"), Same("x = y", keep=False)),
            "swap a b\ndrop c\nstop d\ndrop c\nstem s\nfirst x = y")

    def test_words_of_steps(self):
        self.both(Chain(Stop("stop", "drop", "first")), "stop drop first stop")
        self.both(Chain(Swap(same="swap")), "swap same swap")
        self.both(Chain(Stem("stem", keep=["same"])), "stem stem - same")
        self.both(Chain(Same("same first = stem")), "same same first = stem")
        self.both(Chain(Same("first = first same", keep=False)), "first first = first same")

    def test_words_as_written(self):
        self.both(Chain(Swap(b="c"), Same("a b = a c = b")), "swap b c\nsame a b = a c = b")

    def test_the_most_that_is_let(self):
        for text in ["stop " + TWENTY, "drop " + TWENTY, "stem a b c d e f g h - " + TWENTY, "swap " + TEN_PAIRS,
                     "same " + FOUR, EIGHT, SIX, "\n".join(["stop x"] * 5) + "\n" + EIGHT, "stem abcd - abcdefghij",
                     EIGHT.replace("same", "first"), "stop abcdefghij"]:
            self.same(str(Chain.read(text)), text)

    def test_other_orders_and_words_twice(self):
        for text, written in [
            ("stop the on the", "stop on the"), ("drop b a b", "drop a b"), ("swap c d a b", "swap a b c d"),
            ("stem s es s", "stem es s"), ("stem s - b a b", "stem s - a b"), ("stop " + "a " * 19 + "b", "stop a b"),
            ("stem s - " + "b " * 19 + "a", "stem s - a b"), ("stem s s s s s s s es", "stem es s"),
        ]:
            self.same(str(Chain.read(text)), written)
            self.equal_both_ways(Chain.read(text), Chain.read(written))

    def test_rules_twice_and_in_their_order(self):
        self.same(str(Chain.read("same b = a\nsame b = a\nsame a = a")), "same b = a\nsame b = a\nsame a = a")

    def test_the_example(self):
        read = Chain.read("stop on\nstem s es - news\nsame a = b c")
        self.equal_both_ways(read, Chain(Stop("on"), Stem("es", "s", keep=["news"]), Same("a = b c")))
        self.fails(InvalidLine, [1, 3], Chain.read, "stop on\nsame a = = b")
        self.equal_both_ways(Chain.read(text="stop on"), Chain(Stop("on")))


class WrongLineTest(Case):
    def wrong(self, *rows):
        """Each text is wrong at this line and word, alone and behind lines that are right."""
        for text, line, word in rows:
            self.fails(InvalidLine, [line, word], Chain.read, text)

    def wrong_lines(self, *rows):
        """Each line is wrong at this word, alone, behind a right one, and ahead of another wrong one."""
        for line, word in rows:
            self.wrong((line, 0, word), ("swap x y\n" + line, 1, word), (line + "\nstop A", 0, word))

    def test_values_that_are_no_strings(self):
        for value in any_values():
            if not isinstance(value, str):
                self.fails(InvalidLine, [0, 0], Chain.read, value)

    def test_first_words(self):
        self.wrong_lines(
            ("halt on", 0), ("Stop on", 0), ("stops on", 0), ("on", 0), ("-", 0), ("=", 0), ("stop\ton", 0),
            ("chain a", 0), ("stopon", 0), ("a = b", 0))

    def test_empty_words_and_lines(self):
        self.wrong_lines(
            (" ", 0), (" stop on", 0), ("stop  on", 1), ("stop on ", 2), ("stop a  b", 2),
            ("swap a b ", 3), ("swap a  b", 2), ("stem s ", 2), ("stem  s", 1), ("stem s  - a", 2), ("stem s -  a", 3),
            ("stem s - a ", 4), ("same a = b ", 4), ("same a  = b", 2), ("same a =  b", 3), ("same  a = b", 1),
            ("first a = b ", 4), ("drop ", 1), ("same ", 1))
        self.wrong(
            ("\n", 0, 0), ("stop on\n", 1, 0), ("stop on\n\nstop a", 1, 0), ("\nstop on", 0, 0), ("\n\n", 0, 0),
            ("same a = b\n", 1, 0), ("stop on\n ", 1, 0), ("stop on \n", 0, 2))

    def test_words_that_are_missing(self):
        self.wrong_lines(
            ("stop", 1), ("drop", 1), ("swap", 1), ("swap a", 2), ("swap a b c", 4), ("stem", 1), ("stem s -", 3),
            ("stem s es -", 4), ("same", 1), ("same a", 2), ("same a b", 3), ("same a =", 3), ("same a = b =", 5),
            ("same a b c d", 5), ("first", 1), ("first a", 2), ("first a =", 3))

    def test_values_that_are_no_words(self):
        self.wrong_lines(
            ("stop A", 1), ("stop a *", 2), ("stop a - b", 2), ("stop a = b", 2), ("drop a b1 c", 2),
            ("stop abcdefghijk", 1), ("swap A b", 1), ("swap a B", 2), ("swap a b - c", 3), ("swap a b c *", 4),
            ("stem abcde", 1), ("stem s abcde", 2), ("stem S", 1), ("stem - a", 1), ("stem -", 1), ("stem s = a", 2),
            ("stem s - A", 3), ("stem s - a - b", 4), ("stem s - -", 3), ("stem s - abcdefghijk", 3),
            ("same A = b", 1), ("same a - b", 2), ("same a = B", 3), ("same a * c = b", 2), ("same = a", 1),
            ("same a = = b", 3), ("same a == b", 2), ("same a =b", 2), ("first a = = b", 3), ("first a = b c D", 5))

    def test_too_many_words(self):
        self.wrong_lines(
            ("stop " + TWENTY + " u", 21), ("drop " + TWENTY + " u", 21), ("stop " + "a " * 20 + "a", 21),
            ("stem a b c d e f g h i", 9), ("stem " + "s " * 8 + "s", 9), ("stem a b c d e f g h i - a", 9),
            ("stem a b c d e f g h - " + TWENTY + " u", 30), ("stem s - " + "a " * 20 + "a", 23),
            ("swap " + TEN_PAIRS + " k z", 21), ("swap " + TEN_PAIRS + " k", 21), ("stop " + TWENTY + " A B", 21),
            ("same a b c d e = f", 5), ("same f = a b c d e", 7), ("same " + FOUR + " q", 20),
            ("same a b c d e f", 5), ("same a = b = c = d = e", 8), ("same a = b = c = d =", 8),
            ("same " + FOUR + " = q", 20), ("first a = b = c = d = e", 8))

    def test_first_words_of_pairs_that_came_before(self):
        self.wrong_lines(("swap a b a b", 3), ("swap a b c d a e", 5), ("swap a b a", 3), ("swap a a a a", 3))
        self.same(str(Chain.read("swap a b b a c b")), "swap a b b a c b")

    def test_lines_that_cannot_follow(self):
        self.wrong(
            ("stem s\nstem s", 1, 0), ("stem s\nstop a\nstem es", 2, 0), ("stem s\nstem", 1, 0),
            ("same a = b\nstop a", 1, 0), ("same a = b\ndrop a", 1, 0), ("same a = b\nswap a b", 1, 0),
            ("same a = b\nstem s", 1, 0), ("first a = b\nstop a", 1, 0), ("same a = b\nfirst a = b", 1, 0),
            ("first a = b\nsame a = b", 1, 0), ("same a = b\nhalt", 1, 0), ("same a = b\nsame b = c\nfirst a = b", 2, 0),
            ("stop a\nsame a = b\nsame c = d\nstop", 3, 0))

    def test_too_many_lines(self):
        self.wrong(
            (EIGHT + "\nsame a = b", 8, 0), (EIGHT.replace("same", "first") + "\nfirst a = b", 8, 0),
            ("stop a\n" + EIGHT + "\nsame a = b", 9, 0), (SIX + "\nstop a", 6, 0), (SIX + "\nstem s", 6, 0),
            (SIX + "\nsame a = b", 6, 0), (SIX + "\nfirst a = b", 6, 0), (SIX + "\n", 6, 0), (SIX + "\nhalt", 6, 0))

    def test_the_first_wrong_line_and_word(self):
        self.wrong(
            ("stop on\nstop A\nhalt", 1, 1), ("stop a\nswap a\nstop A", 1, 2), ("stop A B", 0, 1),
            ("stop on\nsame a b c d e =\nhalt", 1, 5), ("stop a\nstem s\nstop A\nstem s", 2, 1))

    def test_a_wrong_line_is_told_ahead_of_a_wrong_chain(self):
        self.wrong(("drop a\nsame a b = c\nsame A", 2, 1), ("stop a\nsame a = b\nsame b =", 2, 3))

    def test_what_the_errors_of_chain_tell(self):
        self.fails(InvalidChain, ["drop", 0], Chain.read, "drop on\nsame a b = c")
        self.fails(InvalidChain, ["drop", 1], Chain.read, "drop on\nfirst a = b\nfirst a = b c")
        self.fails(InvalidChain, ["side", 1], Chain.read, "stop a\nsame b = c\nsame a = b")
        self.fails(InvalidChain, ["side", 0], Chain.read, "drop a\nsame a = b")


if __name__ == "__main__":
    unittest.main()
