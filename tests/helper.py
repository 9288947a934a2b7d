"""What the tests share: values of any kind, and errors with their fields."""

import copy
import inspect
import unittest

from quotehome import errors
from quotehome.books import Book
from quotehome.chains import Chain
from quotehome.desk import Desk
from quotehome.judging import judge
from quotehome.rules import Same
from quotehome.shelves import Shelf
from quotehome.steps import Drop, Stem, Step, Stop, Swap

FIELDS = {
    "QuoteError": (),
    "InvalidWord": ("value",),
    "InvalidText": ("index",),
    "InvalidStep": ("reason", "index"),
    "InvalidChain": ("reason", "index"),
    "InvalidLine": ("line", "word"),
    "UnknownCommand": ("line",),
    "Missed": ("text", "first", "last"),
    "NoText": ("name",),
    "NoBeginning": ("begun",),
    "NoWord": ("index",),
    "NoBlock": ("index",),
    "TooMany": ("limit",),
    "NothingToUndo": ("count",),
}


def nested(depth):
    value = "a"
    for _ in range(depth):
        value = [value]
    return value


def any_values():
    """Values of many kinds, none of them a word, made anew at each call."""
    return [
        None, True, False, 0, 1, -1, 10 ** 59, -(10 ** 59),
        "", " ", "A", "Ab", "aB", "a1", "1", "a b", " a", "a ", "a\n", "\n", "*", "-", "=", "~", "abcdefghijk",
        "a" * 4000, "a " * 2000,
        (), ("a",), ("a", "b"), ((),), [], ["a"], [None], {}, {"a": "b"}, {1: [2]}, {(1, "a"): None}, nested(20),
        Step(), Stop("a"), Drop("a"), Swap(a="b"), Stem("s"), Same("a = b"),
        Chain(), Chain(Stop("a")), Chain()("a b"), Chain()("a")[0], Book(Chain()),
        judge(Chain(), Chain()), Shelf(Chain(), Chain()), Desk(),
        errors.QuoteError(), errors.InvalidWord("a"), errors.NoBlock(0),
    ]


def strict(value):
    """A value with its classes and attributes, so that True is not 1 and a list is not a tuple."""
    if isinstance(value, (list, tuple)):
        return (type(value), [strict(part) for part in value])
    if isinstance(value, dict):
        return (dict, [(strict(key), strict(worth)) for key, worth in value.items()])
    if hasattr(value, "__dict__"):
        return (type(value), strict(vars(value)))
    return (type(value), value)


class Case(unittest.TestCase):
    def same(self, one, other):
        self.assertEqual(strict(one), strict(other))

    def fails(self, error, fields, call, *args, **more):
        """The call raises just this error with these fields, and leaves its arguments as they were."""
        before = copy.deepcopy((args, more))
        with self.assertRaises(error) as caught:
            call(*args, **more)
        self.assertIs(type(caught.exception), error)
        self.same([getattr(caught.exception, name) for name in FIELDS[error.__name__]], list(fields))
        self.same((args, more), before)

    def gives(self, value, call, **named):
        """The call returns or yields just this, by position and by name, each time, and its arguments stay."""
        before = copy.deepcopy(named)
        for _ in range(2):
            for answer in [call(*named.values()), call(**named)]:
                self.same(list(answer) if inspect.isgenerator(answer) else answer, value)
        self.same(named, before)

    def fails_in_all_ways(self, error, fields, call, **named):
        """The call, or the first item of its generator, raises just this error, by position and by name."""
        def called(*args, **more):
            answer = call(*args, **more)
            if inspect.isgenerator(answer):
                next(answer)

        self.fails(error, fields, called, *named.values())
        self.fails(error, fields, called, **named)

    def equal_to_no_other(self, value, others):
        """The value is equal to none of these, seen from both sides."""
        for other in others:
            self.assertIs(value == other, False, repr(other)[:80])
            self.assertIs(other == value, False, repr(other)[:80])
            self.assertIs(value != other, True, repr(other)[:80])

    def equal_both_ways(self, one, other):
        self.assertIsNot(one, other)
        self.assertIs(one == other, True)
        self.assertIs(other == one, True)
        self.assertIs(one != other, False)

    def owns(self, owner, names):
        """The class has these methods in its own body."""
        for name in names:
            self.assertIn(name, vars(owner))
