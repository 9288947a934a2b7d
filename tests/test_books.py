import copy
import random
import unittest

from quotehome.books import Book
from quotehome.chains import Chain
from quotehome.errors import InvalidText, InvalidWord, NoText, TooMany
from quotehome.rules import Same
from quotehome.steps import Drop, Stop
from tests import models
from tests.helper import Case, any_values

X = Chain(Same("a b = p q r"))
TWO = Chain(Same("a = b"))
FORTY = ["n" + chr(97 + k // 26) + chr(97 + k % 26) for k in range(40)]


def book_of(chain, **texts):
    book = Book(chain)
    for name, text in texts.items():
        book.add(name, text)
    return book


def told(book):
    return [book.names, [book[name] for name in book.names], len(book), str(book.chain)]


def text_in(book, name):
    return book[name]


class TextsTest(Case):
    def test_an_empty_book(self):
        for book in [Book(X), Book(chain=X)]:
            self.same(told(book), [(), [], 0, "same a b = p q r"])
            self.assertIs(book.chain, X)

    def test_a_new_name(self):
        book = Book(X)
        self.same(book.add("two", "a b"), None)
        self.same(book.add(name="one", text="c"), None)
        self.same(book.add("abcdefghij", ""), None)
        self.same(told(book)[:3], [("abcdefghij", "one", "two"), ["", "c", "a b"], 3])

    def test_a_name_that_is_there(self):
        book = book_of(X, one="a b", two="c")
        self.same(book.add("one", "d d"), None)
        self.same(told(book)[:3], [("one", "two"), ["d d", "c"], 2])
        self.same(book.places("a"), {})
        self.same(book.places("d"), {"one": [0, 1]})

    def test_removed_texts(self):
        book = book_of(X, one="a b", two="c")
        self.same(book.remove("one"), None)
        self.same(told(book)[:3], [("two",), ["c"], 1])
        self.same([book.places("a"), list(book.hits(Chain()("a")))], [{}, []])
        self.fails(NoText, ["one"], book.remove, "one")
        self.same(book.remove(name="two"), None)
        self.same(told(book)[:3], [(), [], 0])
        book.add("one", "e")
        self.same(told(book)[:3], [("one",), ["e"], 1])

    def test_names_are_up_to_date(self):
        book = Book(X)
        names = book.names
        book.add("b", "a")
        book.add("a", "a")
        self.same([names, book.names], [(), ("a", "b")])
        book.remove("b")
        self.same(book.names, ("a",))

    def test_values_that_are_no_names(self):
        book = book_of(X, one="a b")
        before = told(book)
        for value in any_values():
            self.fails(InvalidWord, [value], book.add, value, "a")
            self.fails(InvalidWord, [value], book.add, name=value, text=None)
        for value in any_values() + ["two"]:
            self.fails(NoText, [value], book.remove, value)
            self.fails(NoText, [value], text_in, book, value)
            self.fails(NoText, [value], book.marks, value, X("a"), 0)
            self.assertIs(value in book, False)
        self.assertIs("one" in book, True)
        self.same(told(book), before)

    def test_wrong_texts(self):
        book = book_of(X, one="a b")
        for text, index in [(" ", 0), ("a ", 1), ("a  b", 1), ("a b C", 2), ("abcdefghijk", 0)]:
            self.fails(InvalidText, [index], book.add, "two", text)
            self.fails(InvalidText, [index], book.add, "one", text)
        for value in any_values():
            if not isinstance(value, str):
                self.fails(InvalidText, [0], book.add, "one", value)
        self.same(told(book)[:3], [("one",), ["a b"], 1])

    def test_forty_texts_and_one_more(self):
        self.same([Book.MOST, Book(X).MOST], [40, 40])
        book = Book(X)
        for name in FORTY:
            book.add(name, "a " + name)
        before = told(book)
        self.same(len(book), 40)
        self.fails(TooMany, [40], book.add, "one", "a")
        self.fails(TooMany, [40], book.add, "one", "")
        self.same(told(book), before)
        book.add(FORTY[7], "c")
        self.same([len(book), book[FORTY[7]]], [40, "c"])
        book.remove(FORTY[0])
        book.add("one", "a")
        self.same([len(book), book.names[-1]], [40, "one"])
        self.fails(TooMany, [40], book.add, FORTY[0], "a")

    def test_the_first_error_is_told(self):
        book = Book(X)
        for name in FORTY:
            book.add(name, "a")
        self.fails(InvalidWord, ["A"], book.add, "A", "a ")
        self.fails(InvalidWord, [None], book.add, None, "a")
        self.fails(InvalidText, [1], book.add, "one", "a ")
        self.fails(InvalidText, [0], book.add, FORTY[0], None)
        self.same(set(book[name] for name in FORTY), {"a"})

    def test_equality(self):
        self.equal_both_ways(book_of(X, one="a", two="b"), book_of(Chain(Same("a b = p q r")), two="b", one="a"))
        self.equal_both_ways(Book(X), Book(X))
        book = book_of(X, one="a")
        self.equal_to_no_other(book, any_values() + [{"one": "a"}, ("one",)])
        self.equal_to_no_other(book, [
            book_of(Chain(), one="a"), book_of(X, one="b"), book_of(X, two="a"), book_of(X, one="a", two="b"), Book(X)])
        self.equal_to_no_other(Book(X), [Book(Chain()), Book(Chain(Same("a b = p q r", keep=False)))])

    def test_books_do_not_hang_on_one_another(self):
        one, other = book_of(X, one="a"), book_of(X, one="a")
        other.add("two", "b")
        self.same([one.names, other.names], [("one",), ("one", "two")])

    def test_a_book_is_not_iterated_over(self):
        with self.assertRaises(TypeError):
            list(book_of(X, one="a"))

    def test_a_long_text(self):
        book = book_of(TWO, one=" ".join(["a"] * 2000))
        self.same([len(book["one"]), book.places("b")], [3999, {"one": list(range(2000))}])


class PlacesTest(Case):
    def test_words_of_sides(self):
        book = book_of(X, two="a b c", one="c p q r")
        self.same(book.places("a"), {"one": [1], "two": [0]})
        self.same(book.places("r"), {"one": [3], "two": [2]})
        self.same(book.places(word="c"), {"one": [0], "two": [3]})
        self.same(list(book.places("b")), ["one", "two"])

    def test_words_that_stand_twice(self):
        book = book_of(X, one="c a b c a c", two="c")
        self.same(book.places("a"), {"one": [1, 5]})
        self.same(book.places("c"), {"one": [0, 4, 6], "two": [0]})
        twice = book_of(Chain(Same("a b = a c")), one="a b")
        self.same(twice.places("a"), {"one": [0]})

    def test_words_that_stand_nowhere(self):
        book = book_of(Chain(Stop("on"), Drop("off"), Same("a = b", keep=False)), one="a on off b c")
        self.same([book.places(word) for word in ["on", "off", "b", "d"]], [{}, {}, {}, {}])
        self.same(book.places("a"), {"one": [0, 2]})
        self.same(Book(X).places("a"), {})

    def test_other_values(self):
        book = book_of(X, one="a b")
        for value in any_values():
            self.gives({}, book.places, word=value)

    def test_what_was_returned_may_be_changed(self):
        book = book_of(X, one="a b", two="a")
        found = book.places("a")
        found["one"].append(7)
        del found["two"]
        self.same(book.places("a"), {"one": [0], "two": [0]})


class HitsTest(Case):
    def test_the_order(self):
        book = book_of(X, two="c a b c", one="c", three="b", four="c c")
        self.gives([("four", 0), ("four", 1), ("one", 0), ("two", 0), ("two", 4)], book.hits, graph=Chain()("c"))
        self.gives([("three", 0), ("two", 2)], book.hits, graph=Chain()("b"))
        self.gives([("two", 1)], book.hits, graph=X("p q r"))
        self.gives([("two", 1)], book.hits, graph=X("a b"))
        self.gives([], book.hits, graph=Chain()("d"))
        self.gives([], book.hits, graph=Chain()(""))
        self.gives([], Book(X).hits, graph=X("a"))

    def test_graphs_by_other_chains(self):
        book = book_of(Chain(Stop("on")), one="cat on mat", two="cat mat")
        self.gives([("one", 0)], book.hits, graph=Chain(Stop("on"))("cat on mat"))
        self.gives([("two", 0)], book.hits, graph=Chain(Drop("on"))("cat on mat"))
        self.gives([("one", 0), ("two", 0)], book.hits, graph=Chain(Same("cat = dog"))("dog"))
        self.gives([], book.hits, graph=Chain()("cat on mat"))

    def test_two_generators_by_turns(self):
        book = book_of(X, one="a b a", two="b")
        one, other = book.hits(Chain()("a")), book.hits(Chain()("b"))
        self.same([next(one), next(other), next(one), next(other)], [("one", 0), ("one", 1), ("one", 3), ("two", 0)])
        self.same([list(one), list(other)], [[], []])

    def test_graphs_with_very_many_ways(self):
        book = book_of(TWO, one=" ".join(["a"] * 60), two=" ".join(["b"] * 40))
        self.gives([("one", place) for place in range(21)] + [("two", 0)], book.hits, graph=TWO(" ".join(["a"] * 40)))
        self.gives([], book.hits, graph=TWO(" ".join(["a"] * 40 + ["c"])))

    def test_forty_texts(self):
        book = Book(X)
        for name in reversed(FORTY):
            book.add(name, "c a b" if name < "nb" else "c")
        self.gives([(name, 2) for name in FORTY if name < "nb"], book.hits, graph=Chain()("q"))


class MarksTest(Case):
    def marks(self, numbers, book, name, graph, place):
        self.gives(numbers, book.marks, name=name, graph=graph, place=place)

    def test_each_hit_place(self):
        book = book_of(X, one="c a b c a b", two="a b")
        self.marks((0,), book, "one", Chain()("c"), 0)
        self.marks((3,), book, "one", Chain()("c"), 4)
        self.marks((1, 2, 3), book, "one", Chain()("r c"), 3)
        self.marks((1,), book, "one", Chain()("a"), 1)
        self.marks((2,), book, "one", Chain()("b"), 2)
        self.marks((1, 2), book, "one", Chain()("q"), 2)
        self.marks((0, 1), book, "two", X("p q r"), 0)

    def test_other_places(self):
        book = book_of(X, one="c a b")
        for place in [-5, -1, 0, 2, 3, 10 ** 59]:
            self.marks((), book, "one", Chain()("a"), place)
        for place in range(-2, 4):
            self.marks((), book, "one", Chain()("d"), place)

    def test_graphs_without_a_word(self):
        book = book_of(X, one="c a b", two="")
        for graph in [Chain()(""), Chain(Stop("on"))("on on"), Chain(Drop("a"))("a")]:
            for place in range(-2, 3):
                self.marks((), book, "one", graph, place)
        self.marks((), book, "two", Chain()("a"), 0)

    def test_holes(self):
        book = book_of(Chain(), one="a b c d")
        asker = Chain(Stop("on"))
        self.marks((0, 2), book, "one", asker("a on c"), 0)
        self.marks((0,), book, "one", asker("on on a on"), 0)
        self.marks((3,), book, "one", asker("on d on on"), 3)
        self.marks((), book, "one", asker("on a"), -1)

    def test_all_tokens_of_a_word_at_a_place(self):
        book = book_of(Chain(Same("a b = a c")), one="a b")
        self.same(book.chain("a b").tokens[:2], ((0, "a", 0, 0), (0, "a", 0, 1)))
        self.marks((0, 1), book, "one", Chain()("a"), 0)
        self.marks((1,), book, "one", Chain()("b"), 1)

    def test_of_all_ways_with_the_hit_place_and_of_no_other_way(self):
        book = book_of(Chain(), one="a b c x y a")
        asker = Chain(Same("a b = a = a b c x"))
        self.marks((0, 1, 2, 3), book, "one", asker("a"), 0)
        self.marks((5,), book, "one", asker("a"), 5)
        self.marks((0, 1, 2, 3, 4), book, "one", asker("a y"), 0)
        self.marks((0, 1, 2), book, "one", asker("a c"), 0)

    def test_graphs_with_very_many_ways(self):
        book = book_of(TWO, one=" ".join(["a"] * 60))
        self.marks(tuple(range(7, 47)), book, "one", TWO(" ".join(["b"] * 40)), 7)
        self.marks((), book, "one", TWO(" ".join(["b"] * 40)), 21)
        self.marks((), book, "one", TWO(" ".join(["b"] * 40 + ["c"])), 0)

    def test_the_model(self):
        dice = random.Random(13)
        for _ in range(60):
            writer, asker = models.some_pair(dice)
            letters = dice.choice(["abcdefg", "abc", "abe"])
            text, quote = models.some_text(dice, 6, letters), models.some_text(dice, 4, letters)
            book, asked, written = book_of(writer, one=text), asker(quote), writer(text)
            hits = models.hits(asked, written)
            self.same(list(book.hits(asked)), [("one", place) for place in sorted(hits)])
            for place in range(-3, written.width + 2):
                marks = [
                    range(first, last + 1) for at, word, first, last in written.tokens
                    if (at, word) in hits.get(place, ())]
                self.same(book.marks("one", asked, place), tuple(sorted({number for row in marks for number in row})))


class ExampleTest(Case):
    def test_the_interface(self):
        book = Book(Chain(Same("a b = p q r")))
        book.add("one", "a b c")
        self.same(
            [list(book.hits(Chain()(quote))) for quote in ["b c", "q r c", "b r"]], [[], [("one", 1)], [("one", 1)]])
        self.same([book.places("r"), book.marks("one", Chain()("r c"), 2)], [{"one": [2]}, (0, 1, 2)])

    def test_nothing_is_changed_by_asking(self):
        book = book_of(X, one="a b c", two="p q")
        before = copy.deepcopy(book)
        graph = X("a b")
        list(book.hits(graph))
        book.marks("one", graph, 0)
        book.places("a")
        self.same([told(book), graph == X("a b")], [told(before), True])
        self.equal_both_ways(book, before)


if __name__ == "__main__":
    unittest.main()
