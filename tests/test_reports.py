import unittest

from quotehome.chains import Chain
from quotehome.judging import judge
from quotehome.reports import report, shelf_report
from quotehome.rules import Same
from quotehome.shelves import Shelf
from quotehome.steps import Stop
from tests.helper import Case

PLAIN = Chain()
X = Chain(Same("a b = p q r"))
FIRST = Chain(Same("auto = car", keep=False))


class ReportTest(Case):
    def lines(self, verdict):
        told = report(verdict)
        self.gives(told, report, verdict=verdict)
        return told.split("\n")

    def miss(self, verdict, start):
        text, first, last = verdict.misses[start]
        return f"missed {first} {last} {text}"

    def test_chains_that_follow(self):
        self.same(self.lines(judge(PLAIN, PLAIN)), ["follows", "-            safe"])
        self.same(self.lines(judge(Chain(Same("aa bb = cc dd")), PLAIN)), [
            "follows", "-            safe", "aa           safe", "cc           safe"])

    def test_chains_that_do_not(self):
        verdict = judge(X, X)
        self.same(self.lines(verdict), [
            "misses 1", "-            safe", "a            " + self.miss(verdict, ("a",)), "p            safe",
            "p+q          safe"])
        self.assertRegex(report(verdict).split("\n")[2], r"^a            missed 1 2 a b [a-z]+$")
        verdict = judge(X, PLAIN)
        self.same(self.lines(verdict), ["misses 4"] + [
            f"{name:<12} {self.miss(verdict, start)}" for name, start in
            [("-", ()), ("a", ("a",)), ("p", ("p",)), ("p+q", ("p", "q"))]])

    def test_long_beginnings_and_holes(self):
        chain = Chain(Stop("of", "the"), Same("bank of england = boe", "abcdefghij klmnopqrst x = y z zz"))
        verdict = judge(chain, chain)
        lines = self.lines(verdict)
        self.same([line.split(" ")[0] for line in lines[1:]], [
            "-", "abcdefghij", "abcdefghij+klmnopqrst", "bank", "bank+*", "y", "y+z"])
        self.same(lines[2][:13], "abcdefghij   ")
        self.assertRegex(lines[3], r"^abcdefghij\+klmnopqrst (safe|missed \d+ \d+ [a-z ]+)$")
        twelve = Chain(Same("abcdefgh ijk l = m n o"))
        self.same(report(judge(twelve, PLAIN)).split("\n")[3], "abcdefgh+ijk safe")


class ShelfReportTest(Case):
    def test_no_texts(self):
        self.gives("", shelf_report, shelf=Shelf(PLAIN, PLAIN))

    def test_stale_and_fresh_ones(self):
        shelf = Shelf(PLAIN, PLAIN)
        shelf.add("two", "red car")
        shelf.add("abcdefghij", "red bus car")
        shelf.add("one", "")
        self.gives("abcdefghij    3 fresh\none           0 fresh\ntwo           2 fresh", shelf_report, shelf=shelf)
        shelf.renew(FIRST, FIRST)
        shelf.add("big", " ".join(["a"] * 1234))
        self.gives(
            "abcdefghij    3 stale\nbig        1234 fresh\none           0 fresh\ntwo           2 stale", shelf_report,
            shelf=shelf)
        shelf.rewrite("two")
        self.same(shelf_report(shelf).split("\n")[3], "two           2 fresh")


if __name__ == "__main__":
    unittest.main()
