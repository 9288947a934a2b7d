import unittest

from quotehome.chains import Chain
from quotehome.errors import InvalidChain, InvalidStep, InvalidText, InvalidWord
from quotehome.rules import Same
from quotehome.steps import Drop, Stem, Step, Stop, Swap
from tests.helper import Case, any_values

EIGHT = ["a = b", "b = c", "c = d", "d = e", "e = f", "f = g", "g = h", "h = i"]


def no_steps():
    return [value for value in any_values() if not isinstance(value, (Stop, Swap, Stem, Same))]


class StepsOfChainsTest(Case):
    def wrong(self, reason, index, *steps):
        self.fails(InvalidChain, [reason, index], Chain, *steps)

    def test_numbers_of_steps(self):
        self.same(Chain.MOST, 6)
        self.same(Chain().MOST, 6)
        for many in range(7):
            steps = (Stop("x"),) * many
            self.same(Chain(*steps).steps, steps)
            self.same(len(Chain(*steps)), many)
            self.same(repr(Chain(*steps)), f"Chain({many} steps)")
        self.wrong("steps", None, *[Stop("x")] * 7)
        self.wrong("steps", None, *[Stop("x")] * 6, Same("a = b"))
        self.same(len(Chain(*[Stop("x")] * 5, Same("a = b"))), 6)

    def test_any_values_as_steps(self):
        for value in no_steps():
            self.wrong("step", 0, value)
            self.wrong("step", 1, Stop("a"), value, None)
            self.wrong("step", 5, *[Stop("a")] * 5, value)
        self.wrong("step", 1, Stop("a"), Step())
        self.wrong("step", 0, Chain())

    def test_a_second_stem(self):
        self.wrong("stem", 1, Stem("s"), Stem("s"))
        self.wrong("stem", 3, Stop("a"), Stem("s"), Stop("a"), Stem("es"), Stem("s"))
        self.same(len(Chain(Stop("a"), Stem("s"), Drop("a"))), 3)

    def test_a_step_behind_a_same(self):
        for step in [Stop("x"), Drop("x"), Swap(x="y"), Stem("s"), Same("a = b")]:
            self.wrong("last", 1, Same("a = b"), step)
            self.wrong("last", 2, Stop("x"), Same("a = b"), step, Stop("x"))

    def test_several_steps_of_a_class(self):
        chain = Chain(Stop("a"), Stop("a"), Drop("b"), Drop("c"), Swap(d="e"), Swap(e="f"))
        self.same([chain.result(word) for word in "abcdefg"], ["*", None, None, "f", "f", "f", "g"])

    def test_the_first_error_is_told(self):
        self.wrong("steps", None, *[None] * 7)
        self.wrong("steps", None, *[Stem("s")] * 7)
        self.wrong("step", 2, Stem("s"), Stem("s"), None)
        self.wrong("step", 1, Same("a = b"), None)
        self.wrong("step", 3, Same("a = b"), Stop("a"), Stop("b"), "x")
        self.wrong("stem", 2, Stem("s"), Same("a = b"), Stem("s"))
        self.wrong("last", 2, Drop("a"), Same("b c = d"), Stop("d"))
        self.wrong("drop", 1, Drop("a"), Same("a = b", "b c = d"))
        self.wrong("drop", 0, Drop("a"), Stop("b"), Same("b c = d", "a = d"))

    def test_steps_are_kept_in_order(self):
        steps = [Swap(a="b"), Stop("b"), Same("c = d")]
        chain = Chain(*steps)
        self.assertIs(type(chain.steps), tuple)
        steps[0] = None
        self.same(chain.steps, (Swap(a="b"), Stop("b"), Same("c = d")))


class RulesOfChainsTest(Case):
    def wrong(self, reason, index, *steps):
        self.fails(InvalidChain, [reason, index], Chain, *steps)

    def test_without_rules(self):
        for chain in [Chain(), Chain(Stop("a"), Stem("s"))]:
            self.same((chain.rules, chain.keep), ((), True))

    def test_keep(self):
        self.same(Chain(Same("a = b")).keep, True)
        self.same(Chain(Same("a = b", keep=True)).keep, True)
        self.same(Chain(Stop("x"), Same("a = b", keep=False)).keep, False)

    def test_entries(self):
        self.same(Chain(Same("b = a c", "a = b")).rules, ((("b",), ("a", "c")), (("a",), ("b",))))
        self.same(
            Chain(Stop("of", "the"), Same("bank of england = boe")).rules, ((("bank", "*", "england"), ("boe",)),))
        self.same(
            Chain(Swap(x="cats"), Stem("s"), Same("x dogs = news")).rules, ((("cat", "dog"), ("new",)),))
        self.same(Chain(Stop("b", "c"), Same("a b c d = e")).rules, ((("a", "*", "*", "d"), ("e",)),))

    def test_steps_go_one_after_another(self):
        self.same(Chain(Swap(a="on"), Stop("on"), Same("b a c = d")).rules, ((("b", "*", "c"), ("d",)),))
        self.same(Chain(Stop("on"), Swap(a="on"), Same("b a c = d")).rules, ((("b", "on", "c"), ("d",)),))

    def test_sides_that_become_one(self):
        self.same(Chain(Swap(b="a"), Same("a = b")).rules, ((("a",),),))
        self.same(Chain(Swap(b="a"), Same("b = c = a = d")).rules, ((("a",), ("c",), ("d",)),))
        self.same(Chain(Swap(b="a"), Same("c = b = d = a")).rules, ((("c",), ("a",), ("d",)),))
        self.same(Chain(Stem("s"), Same("cats = cat", "dog = x")).rules, ((("cat",),), (("dog",), ("x",))))
        self.same(Chain(Same("a = a", "a = a")).rules, ((("a",),), (("a",),)))
        self.same(Chain(Stop("x", "y"), Same("a x b = a y b = c")).rules, ((("a", "*", "b"), ("c",)),))

    def test_a_drop_beside_sides(self):
        self.same(Chain(Drop("on"), Same("a = b = c")).rules, ((("a",), ("b",), ("c",)),))
        self.wrong("drop", 0, Drop("on"), Same("a b = c"))
        self.wrong("drop", 0, Drop("on"), Same("a = b = c d"))
        self.wrong("drop", 2, Drop("on"), Same("a = b", "b = c", "c = d e", "a b = c"))
        self.wrong("drop", 0, Stop("x"), Drop("on"), Same("a b = c", keep=False))
        self.same(Chain(Stop("on"), Same("a b = c")).rules, ((("a", "b"), ("c",)),))

    def test_a_word_that_becomes_nothing(self):
        self.wrong("side", 0, Drop("a"), Same("a = b"))
        self.wrong("side", 1, Drop("a"), Same("b = c", "b = c = a", "a = b"))
        self.wrong("side", 0, Swap(b="a"), Drop("a"), Same("c = b"))

    def test_sides_that_begin_or_end_with_a_hole(self):
        stop = Stop("on", "off")
        for rule in ["on = a", "a = on", "on b = a", "b on = a", "a = b c on", "a = on b c", "on off = a", "a = b = off"]:
            self.wrong("side", 0, stop, Same(rule))
            self.wrong("side", 1, stop, Same("a = b", rule, "on = a", keep=False))
        self.same(Chain(stop, Same("b on c = a")).rules, ((("b", "*", "c"), ("a",)),))
        self.wrong("side", 0, Stem("s"), Swap(cat="x"), Stop("x"), Same("a cats = b"))

    def test_a_side_that_fails_is_told_though_it_would_become_one(self):
        self.wrong("side", 0, Stop("x", "y"), Same("a = x = y"))


class ResultTest(Case):
    def test_words(self):
        self.same(Chain.HOLE, "*")
        self.same(Chain().HOLE, "*")
        chain = Chain(Drop("a"), Swap(b="on", mice="mouse"), Stop("on", "mouse"), Stem("s"), Same("x = y"))
        for word, result in [
            ("a", None), ("b", "*"), ("on", "*"), ("mice", "*"), ("cats", "cat"), ("as", "as"), ("x", "x"), ("y", "y"),
        ]:
            self.same(chain.result(word), result)
        self.same(chain.result(word="cats"), "cat")
        self.same(Chain().result("abcdefghij"), "abcdefghij")

    def test_words_are_compared_with_what_the_steps_ahead_made(self):
        self.same(Chain(Stem("s"), Stop("cats")).result("cats"), "cat")
        self.same(Chain(Stop("cats"), Stem("s")).result("cats"), "*")
        self.same(Chain(Stem("s"), Swap(cat="dogs")).result("cats"), "dogs")
        self.same(Chain(Drop("a"), Swap(b="a")).result("b"), "a")

    def test_other_values(self):
        chain = Chain(Stop("a"), Drop("b"))
        for value in any_values():
            self.fails(InvalidWord, [value], chain.result, value)


class CallTest(Case):
    def test_wrong_texts(self):
        chain = Chain(Stop("a"))
        for text, index in [(" ", 0), ("a ", 1), ("a  b", 1), ("a b C", 2), ("a\nb", 0), ("abcdefghijk", 0)]:
            self.fails(InvalidText, [index], chain, text)
            self.fails(InvalidText, [index], chain, text=text)
        for value in any_values():
            if not isinstance(value, str):
                self.fails(InvalidText, [0], chain, value)


class PartsTest(Case):
    def test_bare(self):
        self.equal_both_ways(Chain().bare(), Chain())
        self.equal_both_ways(Chain(Stop("a"), Stem("s"), Same("b = c")).bare(), Chain(Stop("a"), Stem("s")))
        self.equal_both_ways(Chain(Same("b = c", keep=False)).bare(), Chain())

    def test_with_rules(self):
        chain = Chain(Stop("a"), Same("b = c"))
        self.equal_both_ways(chain.with_rules("c d = e"), Chain(Stop("a"), Same("c d = e")))
        self.equal_both_ways(
            chain.with_rules("c d = e", "b = c", keep=False), Chain(Stop("a"), Same("c d = e", "b = c", keep=False)))
        self.equal_both_ways(Chain().with_rules(*EIGHT), Chain(Same(*EIGHT)))
        self.same(str(chain), "stop a\nsame b = c")

    def test_with_no_rules(self):
        chain = Chain(Stop("a"), Same("b = c"))
        for value in any_values():
            self.equal_both_ways(chain.with_rules(keep=value), Chain(Stop("a")))
        self.equal_both_ways(chain.with_rules(), Chain(Stop("a")))

    def test_with_wrong_rules(self):
        chain = Chain(Stop("a"), Same("b = c"))
        self.fails(InvalidStep, ["rules", None], chain.with_rules, *EIGHT, "i = j")
        for value in any_values():
            self.fails(InvalidStep, ["rule", 1], chain.with_rules, "b = c", value)
            if not isinstance(value, bool):
                self.fails(InvalidStep, ["keep", None], chain.with_rules, "b = c", keep=value)

    def test_with_rules_that_the_chain_does_not_bear(self):
        self.fails(InvalidChain, ["side", 1], Chain(Stop("a")).with_rules, "b = c", "a = b")
        self.fails(InvalidChain, ["drop", 0], Chain(Drop("a")).with_rules, "b c = d")
        self.fails(InvalidChain, ["steps", None], Chain(*[Stop("x")] * 6).with_rules, "a = b")
        self.equal_both_ways(Chain(*[Stop("x")] * 6).with_rules(), Chain(*[Stop("x")] * 6))

    def test_the_step_is_told_ahead_of_the_chain(self):
        full = Chain(*[Stop("x")] * 6)
        self.fails(InvalidStep, ["rule", 0], full.with_rules, "a")
        self.fails(InvalidStep, ["keep", None], full.with_rules, "a = b", keep=1)
        self.fails(InvalidStep, ["rule", 1], Chain(Stop("a")).with_rules, "a = b", "b")


class JoinTest(Case):
    def joined(self, one, other):
        return one | other

    def test_a_step(self):
        for step in [Stop("a"), Drop("a"), Swap(a="b"), Stem("s"), Same("a = b")]:
            self.equal_both_ways(Chain(Stop("x")) | step, Chain(Stop("x"), step))
        self.same(str(Chain() | Stop("b") | Same("c = d", keep=False)), "stop b\nfirst c = d")

    def test_a_chain(self):
        self.equal_both_ways(
            Chain(Stop("x")) | Chain(Drop("b"), Same("c = d")), Chain(Stop("x"), Drop("b"), Same("c = d")))
        self.equal_both_ways(Chain(Stop("x")) | Chain(), Chain(Stop("x")))
        self.equal_both_ways(Chain() | Chain(Stop("x")), Chain(Stop("x")))

    def test_both_stay(self):
        one, other = Chain(Stop("a")), Chain(Stop("b"))
        both = one | other
        self.same([str(one), str(other), str(both)], ["stop a", "stop b", "stop a\nstop b"])
        again = one
        again |= other
        self.same([str(one), str(again)], ["stop a", "stop a\nstop b"])

    def test_rules_go_through_all_steps(self):
        self.same((Chain(Swap(b="c")) | Same("a b = d")).rules, ((("a", "c"), ("d",)),))

    def test_wrong_chains(self):
        self.fails(InvalidChain, ["steps", None], self.joined, Chain(*[Stop("x")] * 6), Stop("x"))
        self.fails(InvalidChain, ["steps", None], self.joined, Chain(*[Stop("x")] * 4), Chain(*[Stop("x")] * 3))
        self.fails(InvalidChain, ["stem", 2], self.joined, Chain(Stem("s"), Stop("a")), Stem("s"))
        self.fails(InvalidChain, ["last", 1], self.joined, Chain(Same("a = b")), Chain(Stop("x")))
        self.fails(InvalidChain, ["drop", 0], self.joined, Chain(Drop("x")), Same("a b = c"))
        self.fails(InvalidChain, ["side", 0], self.joined, Chain(Stop("a")), Same("a = b"))
        self.fails(InvalidChain, ["step", 1], self.joined, Chain(Stop("a")), Step())


class EqualityTest(Case):
    def test_equal_chains(self):
        self.equal_both_ways(Chain(), Chain())
        self.equal_both_ways(Chain(Stop("a", "b"), Same("c = d")), Chain(Stop("b", "a"), Same("c = d")))

    def test_other_chains_and_values(self):
        chain = Chain(Stop("a"), Stem("s"), Same("c = d"))
        self.equal_to_no_other(chain, any_values() + [chain.steps, str(chain), list(chain.steps)])
        self.equal_to_no_other(chain, [
            Chain(Stem("s"), Stop("a"), Same("c = d")), Chain(Stop("a"), Stem("s")),
            Chain(Stop("a"), Stem("s"), Same("c = d", keep=False)), Chain(Drop("a"), Stem("s"), Same("c = d")),
            Chain(Stop("a"), Stem("s"), Same("d = c"))])
        self.equal_to_no_other(Chain(Stop("b")), [Stop("b"), (Stop("b"),), "stop b"])

    def test_texts(self):
        self.same([repr(Chain()), str(Chain())], ["Chain(0 steps)", ""])
        self.same(repr(Chain(Stop("a"))), "Chain(1 steps)")

    def test_the_example(self):
        chain = Chain(Stop("on", "the"), Stem("s"), Same("cats = big cat"))
        self.same(
            [chain.result("cats"), chain.result("the"), chain.rules, len(chain), repr(chain)],
            ["cat", "*", ((("cat",), ("big", "cat")),), 3, "Chain(3 steps)"])
        self.same(str(chain).split("\n"), ["stop on the", "stem s", "same cats = big cat"])
        self.fails(InvalidChain, ["drop", 0], Chain, Drop("on"), Same("a b = c"))


if __name__ == "__main__":
    unittest.main()
