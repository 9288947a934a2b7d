import random
import unittest

from quotehome.begun import beginnings
from quotehome.chains import Chain
from quotehome.errors import InvalidText, InvalidWord, Missed, NoText, TooMany
from quotehome.home import found, missed
from quotehome.judging import judge
from quotehome.phrases import hit_places
from quotehome.rules import Same
from quotehome.shelves import Shelf
from quotehome.steps import Drop, Stop, Swap
from tests import models
from tests.helper import FIELDS, Case, any_values
from tests.test_books import FORTY

PLAIN = Chain()
X = Chain(Same("a b = p q r"))
CAR = Chain(Same("auto = car"))
FIRST = Chain(Same("auto = car", keep=False))
LARGE = Chain(Same("a b c d = e f g h", "i j k l = m n o p", "q r s t = u v w x", "y = y"))


def shelf_of(writer, asker, **texts):
    shelf = Shelf(writer, asker)
    for name, text in texts.items():
        shelf.add(name, text)
    return shelf


def told(shelf):
    """All that a shelf tells of itself."""
    return [
        str(shelf.writer), str(shelf.asker), shelf.names, shelf.stale, len(shelf),
        [(shelf[name], str(shelf.written_by(name))) for name in shelf.names]]


def text_in(shelf, name):
    return shelf[name]


def set_asker(shelf, asker):
    shelf.asker = asker


class Halt(Exception):
    pass


class TextsTest(Case):
    def test_a_new_shelf(self):
        for shelf in [Shelf(PLAIN, X), Shelf(writer=PLAIN, asker=X)]:
            self.same(told(shelf), ["", "same a b = p q r", (), (), 0, []])
            self.assertIs(shelf.writer, PLAIN)
            self.assertIs(shelf.asker, X)
        self.same([Shelf.MOST, shelf.MOST], [40, 40])
        self.owns(Shelf, [
            "ask_by", "renew", "add", "remove", "written_by", "rewrite", "find", "trial", "tried", "twin", "writer",
            "asker", "names", "stale", "__getitem__", "__len__", "__contains__", "__eq__"])

    def test_added_and_removed_texts(self):
        shelf = Shelf(PLAIN, PLAIN)
        self.same([shelf.add("two", "a b"), shelf.add(name="one", text=""), shelf.add("abcdefghij", "c")], [None] * 3)
        self.same(told(shelf)[2:], [("abcdefghij", "one", "two"), (), 3, [("c", ""), ("", ""), ("a b", "")]])
        self.same(shelf.add("two", "d d"), None)
        self.same([shelf["two"], len(shelf), list(shelf.find("d")), list(shelf.find("a"))], [
            "d d", 3, [("two", 0), ("two", 1)], []])
        self.same([shelf.remove("two"), shelf.remove(name="one")], [None, None])
        self.same(told(shelf)[2:], [("abcdefghij",), (), 1, [("c", "")]])

    def test_names(self):
        shelf = shelf_of(PLAIN, PLAIN, one="a")
        for value in any_values() + ["two", "a b", "One", "one "]:
            self.assertIs(value in shelf, False)
            self.fails(NoText, [value], text_in, shelf, value)
            self.fails_in_all_ways(NoText, [value], shelf.remove, name=value)
            self.fails_in_all_ways(NoText, [value], shelf.written_by, name=value)
        self.assertIs("one" in shelf, True)
        self.assertIs("one" not in shelf, False)
        self.same(told(shelf)[2:], [("one",), (), 1, [("a", "")]])
        with self.assertRaises(TypeError):
            list(shelf)

    def test_errors_of_add_in_their_order(self):
        shelf = Shelf(PLAIN, PLAIN)
        for value in any_values():
            for text in ["a", "a  b", None]:
                self.fails_in_all_ways(InvalidWord, [value], shelf.add, name=value, text=text)
        for text, index in [(" ", 0), ("a  b", 1), ("a B", 1), ("a b ", 2), (None, 0), (["a"], 0), (7, 0)]:
            self.fails_in_all_ways(InvalidText, [index], shelf.add, name="one", text=text)
        self.same(len(shelf), 0)
        for name in FORTY:
            shelf.add(name, "a")
        before = told(shelf)
        for value in any_values():
            self.fails(InvalidWord, [value], shelf.add, value, "a")
            if not isinstance(value, str):
                self.fails(InvalidText, [0], shelf.add, "one", value)
        self.fails_in_all_ways(TooMany, [40], shelf.add, name="one", text="a")
        self.same(told(shelf), before)
        self.same(shelf.add(FORTY[7], "b"), None)
        shelf.remove(FORTY[0])
        self.same([shelf.add("one", "a"), len(shelf)], [None, 40])

    def test_written_by_the_writer_of_its_time(self):
        shelf = shelf_of(PLAIN, PLAIN, one="auto", two="car")
        self.assertIs(shelf.written_by("one"), PLAIN)
        shelf.renew(CAR, CAR)
        self.same([str(shelf.written_by("one")), str(shelf.written_by(name="two"))], ["", ""])
        shelf.add("one", "auto")
        self.assertIs(shelf.written_by("one"), CAR)
        self.assertIs(shelf.written_by("two"), PLAIN)


class EditionsTest(Case):
    def refused(self, error, fields, writer, asker):
        """The class and all changes of the edition raise this, and a shelf is then as before."""
        self.fails_in_all_ways(error, fields, Shelf, writer=writer, asker=asker)
        shelf = shelf_of(PLAIN, PLAIN, one="a b", two="auto")
        shelf.renew(CAR, CAR)
        shelf.add("three", "car")
        before = told(shelf)
        self.fails_in_all_ways(error, fields, shelf.renew, writer=writer, asker=asker)
        self.same(told(shelf), before)
        shelf = None
        if judge_follows(writer):
            shelf = shelf_of(writer, writer.bare(), one="a b")
            before = told(shelf)
            self.fails_in_all_ways(error, fields, shelf.ask_by, asker=asker)
            self.fails(error, fields, set_asker, shelf, asker)
            self.same(told(shelf), before)

    def test_editions_that_do_not_follow(self):
        for writer, asker in [
                (X, X), (X, PLAIN), (PLAIN, Chain(Drop("on"))), (PLAIN, Chain(Swap(a="b"))), (PLAIN, FIRST),
                (CAR, Chain(Drop("a"))), (Chain(Stop("o")), PLAIN)]:
            verdict = judge(writer, asker)
            least = [start for start in beginnings(writer) if not verdict.is_safe(start)][0]
            self.refused(Missed, list(verdict.misses[least]), writer, asker)

    def test_too_many_entries(self):
        self.refused(TooMany, [24], PLAIN, LARGE)
        self.fails(TooMany, [24], Shelf, LARGE, PLAIN)
        self.fails(TooMany, [24], Shelf, LARGE, LARGE)
        # This one would not follow either.
        self.refused(TooMany, [24], X, LARGE)

    def test_ask_by_and_asker(self):
        shelf = shelf_of(PLAIN, PLAIN, one="a b c")
        self.same(shelf.ask_by(X), None)
        self.assertIs(shelf.asker, X)
        self.assertIs(shelf.writer, PLAIN)
        shelf.asker = CAR
        self.assertIs(shelf.asker, CAR)
        self.same(shelf.ask_by(asker=PLAIN), None)
        self.same(told(shelf), ["", "", ("one",), (), 1, [("a b c", "")]])

    def test_renew(self):
        shelf = shelf_of(PLAIN, PLAIN, one="a b c")
        self.same(shelf.renew(CAR, X), None)
        self.assertIs(shelf.writer, CAR)
        self.assertIs(shelf.asker, X)
        self.same(shelf.renew(asker=PLAIN, writer=PLAIN), None)
        self.same(told(shelf), ["", "", ("one",), (), 1, [("a b c", "")]])

    def test_editions_do_not_chain(self):
        shelf = shelf_of(PLAIN, CAR, one="car", two="bus")
        shelf.renew(CAR, FIRST)
        self.same(shelf.stale, ("one",))
        self.fails(Missed, ["car", 0, 0], Shelf, PLAIN, FIRST)


def judge_follows(writer):
    return bool(judge(writer, writer.bare()))


class StaleTest(Case):
    def check(self, shelf):
        """The stale texts are those with a missed quote."""
        stale = tuple(
            name for name in shelf.names
            if models.missed(shelf.written_by(name), shelf.asker, shelf[name]))
        self.same(shelf.stale, stale)

    def test_after_each_change(self):
        shelf = shelf_of(PLAIN, PLAIN, one="red car", two="red bus", three="auto")
        self.same(shelf.stale, ())
        shelf.renew(FIRST, FIRST)
        self.same(shelf.stale, ("one",))
        shelf.add("four", "car")
        self.same(shelf.stale, ("one",))
        shelf.renew(PLAIN, PLAIN)
        self.same(shelf.stale, ("four",))
        shelf.renew(FIRST, FIRST)
        self.same(shelf.stale, ("one",))
        shelf.add("one", "red car")
        self.same(shelf.stale, ())
        shelf.renew(PLAIN, PLAIN)
        self.same(shelf.stale, ("four", "one"))
        shelf.remove("four")
        self.same(shelf.stale, ("one",))
        self.same([shelf.rewrite(), shelf.stale], [("one",), ()])

    def test_through_several_editions(self):
        dice = random.Random(91)
        editions = [
            (PLAIN, PLAIN), (PLAIN, X), (CAR, CAR), (CAR, PLAIN), (FIRST, FIRST), (PLAIN, Chain(Stop("on"))),
            (Chain(Same("a b = p q")), PLAIN), (Chain(Same("p = q", keep=False)),) * 2, (Chain(Drop("on")),) * 2,
            (Chain(Stop("on")),) * 2, (Chain(Swap(a="b")),) * 2]
        words = ["a", "b", "p", "q", "on", "car", "auto", "zoo"]
        for _ in range(25):
            shelf = Shelf(*dice.choice(editions))
            for _ in range(12):
                way = dice.randint(0, 5)
                if way < 2 or len(shelf) == 0:
                    text = " ".join(dice.choice(words) for _ in range(dice.randint(0, 6)))
                    shelf.add(dice.choice(["one", "two", "three", "four"]), text)
                elif way < 4:
                    shelf.renew(*dice.choice(editions))
                elif way == 4:
                    shelf.rewrite(dice.choice(shelf.names))
                else:
                    stale = shelf.stale
                    self.same(shelf.rewrite(), stale)
                self.check(shelf)
            stale = shelf.stale
            self.same(shelf.rewrite(), stale)
            self.all_found(shelf)

    def all_found(self, shelf):
        """After a rewrite of all stale texts every quote of each text is found."""
        self.same(shelf.stale, ())
        for name in shelf.names:
            text = shelf[name]
            many = len(text.split(" ")) if text else 0
            for first in range(many):
                for last in range(first, many):
                    self.same(found(shelf.written_by(name), shelf.asker, text, first, last), True)

    def test_a_text_that_has_just_been_written(self):
        dice = random.Random(92)
        seen = 0
        while seen < 30:
            writer, asker = models.small_pair(dice, letters="abc", rules=2)
            if judge(writer, asker):
                seen += 1
                shelf = Shelf(writer, asker)
                for name in ["one", "two", "three"]:
                    shelf.add(name, models.some_text(dice, 8, "abcz"))
                self.same(shelf.stale, ())
                self.check(shelf)
                self.all_found(shelf)

    def test_long_texts(self):
        shelf = shelf_of(
            PLAIN, PLAIN, one=" ".join(["a", "b"] * 1000), two=" ".join(["car"] * 1000), three="a " * 1999 + "z")
        shelf.renew(FIRST, FIRST)
        self.same(shelf.stale, ("two",))
        shelf.renew(PLAIN, PLAIN)
        self.same(shelf.stale, ())
        shelf.renew(PLAIN, Chain(Same("a b = c", "b a = z")))
        self.same(shelf.stale, ())


class RewriteTest(Case):
    def shelf(self):
        shelf = shelf_of(PLAIN, PLAIN, one="red car", two="car", three="bus")
        shelf.renew(FIRST, FIRST)
        return shelf

    def test_without_names(self):
        shelf = self.shelf()
        self.same(shelf.stale, ("one", "two"))
        self.same(shelf.rewrite(), ("one", "two"))
        self.same([str(shelf.written_by(name)) for name in shelf.names], ["first auto = car", "", "first auto = car"])
        self.same([shelf.rewrite(), shelf.stale], [(), ()])

    def test_with_names(self):
        shelf = self.shelf()
        self.same(shelf.rewrite("two", "three", "two"), ("three", "two"))
        self.same(shelf.stale, ("one",))
        self.same([str(shelf.written_by(name)) for name in shelf.names], ["", "first auto = car", "first auto = car"])
        self.same(list(shelf.find("auto")), [("two", 0)])

    def test_wrong_names(self):
        shelf = self.shelf()
        before = told(shelf)
        for value in any_values():
            self.fails(NoText, [value], shelf.rewrite, value)
            self.fails(NoText, [value], shelf.rewrite, "one", value, "four")
            self.fails(NoText, ["four"], shelf.rewrite, "four", value)
        self.same(told(shelf), before)


class FindTest(Case):
    def test_texts_as_they_were_written(self):
        shelf = shelf_of(CAR, CAR, one="red car", two="auto bus")
        self.same(list(shelf.find("car")), [("one", 1), ("two", 0)])
        shelf.renew(PLAIN, PLAIN)
        shelf.add("three", "car auto")
        self.same(list(shelf.find("car")), [("one", 1), ("three", 0), ("two", 0)])
        self.same(list(shelf.find(quote="auto")), [("one", 1), ("three", 1), ("two", 0)])
        shelf.rewrite("one")
        self.same(list(shelf.find("auto")), [("three", 1), ("two", 0)])
        shelf.ask_by(Chain(Same("car = auto = bus")))
        self.same(list(shelf.find("bus")), [("one", 1), ("three", 0), ("three", 1), ("two", 0), ("two", 1)])
        self.gives([], shelf.find, quote="")

    def test_the_hits_of_the_asked_graph(self):
        dice = random.Random(93)
        for _ in range(40):
            writer, asker = models.small_pair(dice, letters="abe", rules=2)
            if judge(writer, asker):
                shelf = Shelf(writer, asker)
                for name in ["one", "two"]:
                    shelf.add(name, models.some_text(dice, 8, "abcez"))
                for _ in range(4):
                    quote = models.some_text(dice, 4, "abce")
                    pairs = [(name, place) for name in shelf.names for place in hit_places(
                        shelf.asker(quote), shelf.written_by(name)(shelf[name]))]
                    self.gives(pairs, shelf.find, quote=quote)

    def test_two_generators_by_turns(self):
        shelf = shelf_of(PLAIN, PLAIN, one="a b a", two="b a")
        one, other = shelf.find("a"), shelf.find("b")
        self.same([next(one), next(other), next(one), next(other), next(one)], [
            ("one", 0), ("one", 1), ("one", 2), ("two", 0), ("two", 1)])
        self.same([list(one), list(other)], [[], []])

    def test_wrong_texts(self):
        for shelf in [Shelf(PLAIN, PLAIN), shelf_of(PLAIN, PLAIN, one="a")]:
            for value, index in [(" ", 0), ("a  b", 1), ("a B", 1), (None, 0), (7, 0)]:
                self.fails_in_all_ways(InvalidText, [index], shelf.find, quote=value)
            for value in any_values():
                if not isinstance(value, str):
                    self.fails_in_all_ways(InvalidText, [0], shelf.find, quote=value)

    def test_long_quotes(self):
        text = " ".join(["a b"] * 1000)
        shelf = shelf_of(PLAIN, Chain(Same("a b = p q r")), one=text, two=text[:-2])
        self.same(list(shelf.find(text)), [("one", 0)])
        self.same(list(shelf.find(text[4:])), [("one", 0), ("one", 2), ("two", 0)])


class TrialTest(Case):
    def shelf(self):
        shelf = shelf_of(PLAIN, PLAIN, one="red car", two="bus")
        shelf.renew(FIRST, FIRST)
        return shelf

    def change(self, shelf):
        shelf.add("three", "a")
        shelf.remove("two")
        shelf.rewrite()
        shelf.renew(CAR, CAR)
        shelf.asker = PLAIN
        shelf.add("one", "b")
        return told(shelf)

    def test_a_block(self):
        shelf = self.shelf()
        before = told(shelf)
        with shelf.trial() as same:
            self.assertIs(same, shelf)
            self.same(told(same), before)
            self.change(same)
            self.same(shelf.names, ("one", "three"))
        self.same(told(shelf), before)
        self.same(list(shelf.find("car")), [])

    def test_errors_pass_through(self):
        shelf = self.shelf()
        before = told(shelf)
        with self.assertRaises(Halt):
            with shelf.trial():
                self.change(shelf)
                raise Halt
        self.same(told(shelf), before)
        with self.assertRaises(NoText):
            with shelf.trial():
                shelf.add("four", "a")
                shelf.remove("five")
        self.same(told(shelf), before)

    def test_blocks_within_one_another(self):
        shelf = self.shelf()
        before = told(shelf)
        with shelf.trial():
            shelf.add("three", "a")
            between = told(shelf)
            with shelf.trial() as same:
                self.change(same)
            self.same(told(shelf), between)
            with self.assertRaises(Halt):
                with shelf.trial():
                    shelf.remove("one")
                    raise Halt
            self.same(told(shelf), between)
        self.same(told(shelf), before)

    def test_what_was_changed_between_the_call_and_the_block(self):
        shelf = self.shelf()
        trial = shelf.trial()
        shelf.add("three", "a")
        before = told(shelf)
        with trial:
            self.change(shelf)
        self.same(told(shelf), before)
        with trial:
            self.change(shelf)
        self.same(told(shelf), before)

    def test_tried(self):
        shelf = self.shelf()
        before = told(shelf)
        seen = []
        self.same(shelf.tried(lambda same: seen.append(same is shelf)), None)
        self.same(seen, [True])
        self.assertEqual(shelf.tried(self.change), shelf.tried(deed=self.change))
        self.same(told(shelf), before)
        self.same(shelf.tried(
            lambda same: [same.add("six", "a"), same.tried(lambda more: more.add("six", "b")), same["six"]]),
            [None, None, "a"])

        def stopped(same):
            self.change(same)
            raise Halt

        with self.assertRaises(Halt):
            shelf.tried(stopped)
        self.same(told(shelf), before)


class TwinTest(Case):
    def test_a_twin(self):
        shelf = shelf_of(PLAIN, PLAIN, one="red car", two="bus")
        shelf.renew(FIRST, FIRST)
        twin = shelf.twin()
        self.assertIsNot(twin, shelf)
        self.same(told(twin), told(shelf))
        before = told(shelf)
        twin.add("three", "a")
        twin.remove("two")
        twin.rewrite()
        twin.renew(PLAIN, PLAIN)
        self.same(told(shelf), before)
        later = told(twin)
        shelf.remove("one")
        shelf.asker = FIRST.bare() | Same("auto = car", keep=False)
        self.same(told(twin), later)
        with twin.trial():
            twin.twin().add("four", "a")
            self.same("four" in twin, False)

    def test_equal_ones(self):
        def made():
            shelf = shelf_of(PLAIN, PLAIN, one="red car", two="bus")
            shelf.renew(Chain.read(str(FIRST)), FIRST)
            shelf.add("three", "car")
            return shelf

        self.equal_both_ways(made(), made())
        self.equal_both_ways(made(), made().twin())
        self.equal_both_ways(Shelf(PLAIN, X), Shelf(Chain(), Chain.read(str(X))))
        others = []
        for change in [
                lambda shelf: shelf.add("one", "red bus"), lambda shelf: shelf.add("three", "bus"),
                lambda shelf: shelf.add("four", ""),
                lambda shelf: shelf.remove("two"), lambda shelf: shelf.rewrite("two"),
                lambda shelf: shelf.renew(PLAIN, PLAIN),
                lambda shelf: shelf.renew(FIRST, FIRST.with_rules("auto = car", "x = x", keep=False))]:
            shelf = made()
            change(shelf)
            others.append(shelf)
        self.equal_to_no_other(made(), others + any_values())


class ExamplesTest(Case):
    def test_the_examples(self):
        shelf = Shelf(Chain(), Chain())
        first = Chain(Same("auto = car", keep=False))
        self.same(
            [shelf.add("one", "red car"), shelf.add("two", "red bus"), shelf.renew(first, first)], [None, None, None])
        self.same(
            [shelf.stale, list(shelf.find("car")), shelf.rewrite(), shelf.stale, list(shelf.find("car")),
             list(shelf.find("auto"))], [("one",), [], ("one",), (), [("one", 1)], [("one", 1)]])
        with self.assertRaises(Missed) as caught:
            shelf.ask_by(Chain(Drop("red")))
        text, first, last = [getattr(caught.exception, name) for name in FIELDS["Missed"]]
        self.assertIn((first, last), list(missed(shelf.writer, Chain(Drop("red")), text)))


if __name__ == "__main__":
    unittest.main()
