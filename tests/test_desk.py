import copy
import random
import unittest

from quotehome.chains import Chain
from quotehome.charts import chart
from quotehome.desk import Desk
from quotehome.errors import InvalidChain, InvalidLine, Missed, NothingToUndo, NoText, NoWord, TooMany, UnknownCommand
from quotehome.home import asks, found
from quotehome.judging import judge
from quotehome.reports import report, shelf_report
from quotehome.rules import Same
from quotehome.shelves import Shelf
from quotehome.steps import Stop
from tests.helper import FIELDS, Case, any_values

SHELF_LINES = ["renew", "add one a", "remove one", "stale", "rewrite", "rewrite one", "find a"]
CHANGES = ["writer stop on", "asker stop on", "clear", "renew", "add two b", "remove one", "rewrite", "rewrite one"]


def told(desk):
    """All that a desk tells of itself."""
    shelf = desk.shelf
    return [
        str(desk.writer), str(desk.asker), None if shelf is None else [
            str(shelf.writer), str(shelf.asker), shelf_report(shelf), [shelf[name] for name in shelf.names],
            [str(shelf.written_by(name)) for name in shelf.names]]]


def desk_of(*lines):
    desk = Desk()
    for line in lines:
        desk.say(line)
    return desk


def in_one_line(text):
    return text.replace("\n", " | ") or "-"


class DeskCase(Case):
    def say(self, desk, line, answer):
        self.same(desk.say(line), answer)

    def raises(self, error, fields, desk, line):
        """The line raises this, and changes nothing."""
        before, many = told(desk), len(undone(desk))
        self.fails_in_all_ways(error, fields, desk.say, line=line)
        self.same(told(desk), before)
        self.same(len(undone(desk)), many)

    def unknown(self, desk, *lines):
        for line in lines:
            self.raises(UnknownCommand, [line], desk, line)


def undone(desk):
    """What a desk is like behind each undo that it can do."""
    other = copy.deepcopy(desk)
    seen = []
    while True:
        try:
            other.undo()
        except NothingToUndo:
            return seen
        seen.append(told(other))


class FormsTest(DeskCase):
    def desks(self):
        return [Desk(), desk_of("open", "add one a b", "writer stop on")]

    def test_values_that_are_no_lines(self):
        for desk in self.desks():
            for value in any_values() + [["undo"], ("judge",), b"judge"]:
                self.raises(UnknownCommand, [value], desk, value)

    def test_parts(self):
        for desk in self.desks():
            self.unknown(
                desk, "", " ", "judg", "Judge", "JUDGE", "judges", "judge ", " judge", "judge  ", "judge\n", "\njudge",
                "judge x", "judge judge", "clear x", "clear ", "open x", "open ", "undo x", "undo 1", "undo ", "Undo",
                "writer", "writer ", "writer  stop on", "writer stop  on", "writer stop on ", "writer stop\non",
                "writer stop on\nstop the", "Writer stop on", "asker", "asker ", "asker stop on\n", "asker  stop",
                "show", "show ", "show writers", "show Writer", "show writer asker", "show shelf", "show writer ",
                "show\nwriter")

    def test_texts(self):
        for desk in self.desks():
            self.unknown(
                desk, "graph", "graph ", "graph A", "graph a B", "graph a  b", "graph a b ", "graph a\nb", "graph a1",
                "graph abcdefghijk", "graph a abcdefghijk", "graph *", "graph a, b",
                "found", "found 0", "found 0 0", "found 0 0 ", "found 0 0 A", "found a 0 a", "found 0 a a",
                "found 0 0 a1",
                "found 00 0 a", "found 0 00 a", "found 01 1 a b", "found 1 01 a b", "found 1000 0 a", "found 0 1000 a",
                "found -1 0 a", "found 0 -1 a", "found +1 1 a b", "found 0 1. a", "found  0 0 a", "found 0  0 a",
                "found 0 0  a", "found 0 0 a ", "found 0 0 a\n", "found 0 0 abcdefghijk", "found 0 0 0 a",
                "Found 0 0 a",
                "found 1_0 11 a")

    def test_lines_about_a_shelf(self):
        self.unknown(Desk(), *SHELF_LINES)
        self.unknown(desk_of("writer stop on", "asker stop on", "clear"), *SHELF_LINES)
        desk = self.desks()[1]
        self.unknown(
            desk, "renew x", "renew ", "add", "add ", "add one", "add one ", "add one  a", "add One a", "add one A",
            "add 1 a", "add one a1", "add abcdefghijk a", "add one abcdefghijk", "add one a\n", "add * a", "remove",
            "remove ", "remove one two", "remove One", "remove abcdefghijk", "remove 1", "stale x", "stale ", "stale\n",
            "rewrite ", "rewrite One", "rewrite one  one", "rewrite one ", "rewrite abcdefghijk", "rewrite one 1",
            "find", "find ", "find A", "find a  b", "find a ", "find abcdefghijk", "find a\n", "Find a")
        desk.say("undo")
        desk.say("undo")
        desk.say("undo")
        self.unknown(desk, *SHELF_LINES)

    def test_right_ones(self):
        desk = desk_of("open", "add one a b")
        others = ["open", "judge", "graph a", "found 0 0 a", "show writer", "show asker", "undo"]
        for line in SHELF_LINES + CHANGES + others:
            other = copy.deepcopy(desk)
            self.same(type(other.say(line)), str)
            other = copy.deepcopy(desk)
            self.same(type(other.say(line=line)), str)
        self.same(desk.say("graph abcdefghij"), "   0 abcdefghij   0   0")
        self.raises(NoWord, [999], desk, "found 999 999 a")


class ChainLinesTest(DeskCase):
    def test_one_more_line(self):
        desk = Desk()
        for name in ["writer", "asker"]:
            self.say(desk, "show " + name, "-")
            for line in ["stop on the", "stem s es - news", "swap mice mouse", "same a b = p q", "same p = d"]:
                self.say(desk, name + " " + line, "ok")
            self.say(
                desk, "show " + name, "stop on the | stem es s - news | swap mice mouse | same a b = p q | same p = d")
        self.same(str(desk.writer), "stop on the\nstem es s - news\nswap mice mouse\nsame a b = p q\nsame p = d")
        self.assertTrue(desk.writer == desk.asker == Chain.read(str(desk.writer)))

    def test_the_other_chain_stays(self):
        desk = desk_of("writer stop on")
        self.same([str(desk.writer), str(desk.asker)], ["stop on", ""])
        desk.say("asker stem s")
        self.same([str(desk.writer), str(desk.asker)], ["stop on", "stem s"])

    def test_errors_are_those_of_the_longer_text(self):
        texts = [
            "", "stop on", "stop on\nstem s", "same a = b", "first a = b c", "stop on\nsame bank on x = y", "drop on",
            "\n".join(["stop on"] * 6), "\n".join(["same a = b"] * 8), "\n".join(["stop on"] * 5 + ["same a = b"]),
            "swap a b\nstop b"]
        lines = [
            "stop on", "drop on", "stem s", "stem", "swap a b", "swap a", "swap a b a c", "same a = b", "first a = b",
            "same a b = c", "same a = = b", "same a", "same on a = b", "same a = b = c = d = e", "same a b c d e = f",
            "stop", "stop A", "stop " + " ".join(["on"] * 21), "go", "Stop on", "=", "*", "stem s - ", "stem s -",
            "- a",
            "stem sssss", "drop a", "swap a b c", "same a = on", "stop a1 b", "drop on", "same b a = c", "~", "1"]
        seen = set()
        for text in texts:
            for line in lines:
                for name in ["writer", "asker"]:
                    desk = desk_of(*[f"{name} {part}" for part in text.split("\n") if part])
                    longer = text + "\n" + line if text else line
                    if " " in (line[-1], line[0]):
                        self.unknown(desk, f"{name} {line}")
                        continue
                    try:
                        chain = Chain.read(longer)
                    except (InvalidLine, InvalidChain) as error:
                        fields = [getattr(error, part) for part in FIELDS[type(error).__name__]]
                        told_by = fields[0] if isinstance(error, InvalidChain) else fields[1] > 0
                        seen.add((type(error).__name__, told_by))
                        self.raises(type(error), fields, desk, f"{name} {line}")
                    else:
                        self.say(desk, f"{name} {line}", "ok")
                        self.assertTrue(getattr(desk, name) == chain)
        self.same(seen, {
            ("InvalidLine", False), ("InvalidLine", True), ("InvalidChain", "drop"), ("InvalidChain", "side")})

    def test_clear(self):
        desk = desk_of("writer stop on", "asker stop on", "open", "add one a")
        shelf = told(desk)[2]
        self.say(desk, "clear", "ok")
        self.same([str(desk.writer), str(desk.asker)], ["", ""])
        self.same(told(desk)[2], shelf)


class AskingLinesTest(DeskCase):
    def test_judge(self):
        for text, other in [("", ""), ("same a b = p q r",) * 2, ("same a b = p q r", ""), ("", "drop on")]:
            desk = desk_of(
                *[f"writer {line}" for line in [text] if line], *[f"asker {line}" for line in [other] if line])
            self.say(desk, "judge", in_one_line(report(judge(Chain.read(text), Chain.read(other)))))
        self.say(Desk(), "judge", "follows | -            safe")
        desk = desk_of("writer same a b c d = e f g h", "writer same a b c d = i j k l", "asker same a b c d = e f g h")
        self.say(desk, "judge", in_one_line(report(judge(desk.writer, desk.asker))))
        desk.say("asker same a = b")
        self.raises(TooMany, [24], desk, "judge")
        self.raises(TooMany, [24], desk, "open")

    def test_graph(self):
        desk = desk_of("writer stop on", "writer same a b = p q r", "asker same x = y")
        for text in ["a b c", "a on b", "x", "a"]:
            self.say(desk, "graph " + text, in_one_line(chart(desk.writer(text))))
        self.say(desk, "graph on on", "-")
        self.say(desk, "graph a b", "   0 a            0   0 |    0 p            0   1 |    1 b            1   1 | "
                 "   1 q            0   1 |    2 r            0   1")

    def test_found(self):
        desk = desk_of("writer same a b = p q r", "asker stop on", "asker same a b = p q r")
        for line, answer in [
                ("0 2 a b c", "found"), ("1 2 a b c", "missed"), ("0 0 on", "asks nothing"),
                ("1 2 a on on b", "asks nothing"),
                ("0 1 a on", "found"), ("0 10 a a a a a a a a a a a", "found")]:
            self.say(desk, "found " + line, answer)
            first, last, text = int(line.split(" ")[0]), int(line.split(" ")[1]), " ".join(line.split(" ")[2:])
            self.same(asks(desk.asker, text, first, last), answer != "asks nothing")
            self.same(found(desk.writer, desk.asker, text, first, last), answer != "missed")
        for line, number in [("3 3 a b c", 3), ("0 3 a b c", 3), ("2 1 a b c", 1), ("3 0 a b c", 3), ("999 0 a", 999)]:
            self.raises(NoWord, [number], desk, "found " + line)


class ShelfLinesTest(DeskCase):
    def test_some_lines(self):
        desk = Desk()
        self.same(desk.shelf, None)
        for line, answer in [
                ("open", "ok"), ("stale", "-"), ("rewrite", "-"), ("find a", "-"), ("add two red car", "ok"),
                ("add one car car", "ok"), ("find car", "one:0 one:1 two:1"), ("find car car", "one:0"),
                ("writer first auto = car", "ok"), ("asker first auto = car", "ok"), ("stale", "-"),
                ("find car", "one:0 one:1 two:1"), ("renew", "ok"), ("stale", "one two"), ("find car", "-"),
                ("add four auto", "ok"), ("rewrite two two four", "four two"), ("stale", "one"),
                ("find car", "four:0 two:1"), ("rewrite", "one"), ("stale", "-"), ("remove one", "ok"),
                ("find auto", "four:0 two:1"), ("rewrite two", "two"), ("open", "ok"), ("find auto", "-")]:
            self.say(desk, line, answer)
        self.same(desk.shelf.names, ())

    def test_what_the_functions_raise(self):
        desk = desk_of("open", "add one a b c")
        for line in ["remove two", "rewrite two", "rewrite one two", "rewrite two three"]:
            self.raises(NoText, ["two"], desk, line)
        desk.say("asker drop on")
        for line in ["open", "renew"]:
            with self.assertRaises(Missed) as caught:
                desk.say(line)
            miss = [getattr(caught.exception, part) for part in FIELDS["Missed"]]
            self.same(tuple(miss), judge(Chain(), Chain.read("drop on")).misses[()])
            self.raises(Missed, miss, desk, line)
        desk = desk_of("open")
        for number in range(40):
            desk.say("add n" + chr(97 + number // 26) + chr(97 + number % 26) + " a")
        self.raises(TooMany, [40], desk, "add one a")
        self.say(desk, "add naa b", "ok")

    def test_the_shelf_is_changed_and_taken_back(self):
        desk = desk_of("open", "add one a")
        shelf = desk.shelf
        desk.say("add two b")
        self.assertIs(desk.shelf, shelf)
        self.same(shelf.names, ("one", "two"))
        desk.say("undo")
        self.same(desk.shelf.names, ("one",))


class UndoTest(DeskCase):
    def test_each_line_that_changes_something(self):
        desk = desk_of("writer stop on", "asker stop on", "open", "add one car bus")
        for line in CHANGES + ["open", "rewrite one one"]:
            before, many = told(desk), len(undone(desk))
            desk.say(line)
            self.same(len(undone(desk)), many + 1)
            self.say(desk, "undo", "ok")
            self.same(told(desk), before)
            desk.say(line)
            self.same([desk.undo(), told(desk)], [None, before])

    def test_lines_that_only_ask_or_raise(self):
        desk = desk_of("writer stop on", "asker stop on", "open", "add one car bus")
        before = told(desk)
        desk.say("add two a")
        for line in ["judge", "show writer", "show asker", "graph a", "found 0 0 a", "stale", "find a"]:
            desk.say(line)
        for line in ["remove three", "writer go", "undo x", "asker same a", "found 1 1 a", "rewrite three"]:
            with self.assertRaises((ValueError, LookupError)):
                desk.say(line)
        self.say(desk, "undo", "ok")
        self.same(told(desk), before)

    def test_several_lines(self):
        lines = [
            "writer stop on", "asker stop on", "open", "add one on car", "add two bus", "writer first auto = car",
            "asker first auto = car", "renew", "rewrite", "add three auto", "remove two", "open", "add four a", "clear"]
        states = [told(desk_of(*lines[:many])) for many in range(len(lines) + 1)]
        for many in range(1, len(lines) + 1):
            for count in range(1, many + 1):
                desk = desk_of(*lines[:many])
                self.same([desk.undo(count=count), told(desk)], [None, states[many - count]])
                self.same(undone(desk), states[:many - count][::-1])
        desk = desk_of(*lines)
        self.same([desk.undo(3), desk.undo(2), desk.undo()], [None] * 3)
        self.same(told(desk), states[-7])
        for line in lines[-6:]:
            desk.say(line)
        self.same(told(desk), states[-1])

    def test_more_than_there_are(self):
        desk = Desk()
        self.raises(NothingToUndo, [1], desk, "undo")
        self.fails(NothingToUndo, [1], desk.undo)
        desk = desk_of("writer stop on", "asker stop on")
        before = told(desk)
        for value in any_values() + [3, 0, -1, -2, "1"]:
            if value is True or value is False or value not in (1, 2):
                self.fails_in_all_ways(NothingToUndo, [value], desk.undo, count=value)
        self.same(told(desk), before)
        desk.undo(2)
        self.raises(NothingToUndo, [1], desk, "undo")
        self.same(told(desk), ["", "", None])

    def test_a_line_that_was_taken_back(self):
        desk = desk_of("writer stop on", "asker stop on", "undo", "writer stem s")
        self.same([str(desk.writer), str(desk.asker)], ["stop on\nstem s", ""])
        desk.undo(2)
        self.same(told(desk), ["", "", None])


class TwoDesksTest(DeskCase):
    def test_two_desks_by_turns(self):
        one, other = Desk(), Desk()
        lines = [
            "open", "add one a b", "writer same a = b", "asker same a = b", "renew", "rewrite", "add two b", "clear"]
        states = []
        for line in lines:
            one.say(line)
            states.append(told(one))
            other.say("writer stop on") if len(states) == 3 else other.say("asker stop on") if len(states) < 5 else None
        self.same(told(one), told(desk_of(*lines)))
        self.same(told(other)[2], None)
        other.undo()
        for state in states[-2::-1]:
            one.undo()
            self.same(told(one), state)

    def test_against_a_shelf_and_chains_beside_it(self):
        dice = random.Random(121)
        for _ in range(25):
            desk, chains, shelf = Desk(), [Chain(), Chain()], None
            for _ in range(25):
                line = self.some_line(dice)
                chains, shelf = self.both(desk, chains, shelf, line)
                self.same([str(desk.writer), str(desk.asker)], [str(chain) for chain in chains])
                self.assertTrue(desk.shelf == shelf)
                self.same(desk.shelf is None, shelf is None)
                if shelf is not None:
                    self.same(shelf_report(desk.shelf), shelf_report(shelf))

    def some_line(self, dice):
        words = ["a", "b", "on", "car", "auto"]
        text = " ".join(dice.choice(words) for _ in range(dice.randint(1, 4)))
        step = dice.choice(["stop on", "first auto = car", "same auto = car", "swap a b", "same a b = b a", "drop on"])
        return dice.choice([
            "open", "renew", "clear", "stale", "rewrite", "rewrite one", "remove two", "judge", f"graph {text}",
            f"found 0 1 {text}", f"find {text}", f"add one {text}", f"add two {text}", f"writer {step}",
            f"asker {step}"])

    def both(self, desk, chains, shelf, line):
        """Says the line, and does the same with chains and a shelf alone."""
        command, _, rest = line.partition(" ")
        parts = rest.split(" ")
        made, other = list(chains), None if shelf is None else shelf.twin()
        try:
            if shelf is None and line in ["renew", "stale", "rewrite"] or shelf is None and command in (
                    "add", "remove", "rewrite", "find"):
                raise UnknownCommand(line)
            answer = "ok"
            if command in ("writer", "asker"):
                number = ("writer", "asker").index(command)
                made[number] = Chain.read((str(made[number]) + "\n" + rest).lstrip("\n"))
            elif command == "clear":
                made = [Chain(), Chain()]
            elif command == "open":
                other = Shelf(*made)
            elif command == "renew":
                other.renew(*made)
            elif command == "add":
                other.add(parts[0], " ".join(parts[1:]))
            elif command == "remove":
                other.remove(rest)
            elif command == "stale":
                answer = " ".join(other.stale) or "-"
            elif command == "rewrite":
                answer = " ".join(other.rewrite(*[part for part in parts if part])) or "-"
            elif command == "find":
                answer = " ".join(f"{name}:{place}" for name, place in other.find(rest)) or "-"
            elif command == "judge":
                answer = in_one_line(report(judge(*made)))
            elif command == "graph":
                answer = in_one_line(chart(made[0](rest)))
            else:
                text = " ".join(parts[2:])
                asking = asks(made[1], text, 0, 1)
                answer = ("found" if found(*made, text, 0, 1) else "missed") if asking else "asks nothing"
        except (ValueError, LookupError, OverflowError) as error:
            fields = [getattr(error, part) for part in FIELDS[type(error).__name__]]
            self.raises(type(error), fields, desk, line)
            return chains, shelf
        self.say(desk, line, answer)
        return made, other


class ExamplesTest(DeskCase):
    def test_the_examples(self):
        desk = Desk()
        self.same(
            [desk.say("writer same a b = p q r"), desk.say("asker same a b = p q r"), desk.say("judge")[:8],
             desk.say("found 1 2 a b c"), desk.say("show asker")],
            ["ok", "ok", "misses 1", "missed", "same a b = p q r"])
        miss = judge(Chain(Same("a b = p q r")), Chain(Same("a b = p q r"))).misses[("a",)]
        self.raises(Missed, list(miss), desk, "open")
        self.same(
            [desk.say(line) for line in [
                "undo", "undo", "asker same a b = p q r", "open", "add one a b c", "find b c", "find p q r", "stale"]],
            ["ok", "ok", "ok", "ok", "ok", "one:1", "one:0", "-"])

    def test_names_and_attributes(self):
        desk = Desk()
        self.assertTrue(desk.writer == desk.asker == Chain())
        self.same(desk.shelf, None)
        self.owns(Desk, ["say", "undo"])
        self.assertTrue(desk_of("asker stop on").asker == Chain(Stop("on")))


if __name__ == "__main__":
    unittest.main()
