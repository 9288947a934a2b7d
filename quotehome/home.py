"""Quotes at home: whether a quote asks, and whether and where it is found in the text that it is a quote of."""

from quotehome.errors import NoWord
from quotehome.quotes import Quotes
from quotehome.walks import start_places
from quotehome.words import HOLE, is_number, words_of


def check_quote(text, first, last):
    """Raises InvalidText or NoWord if any values do not tell a quote; returns the words of the text."""
    words = words_of(text)
    if not is_number(first, len(words)):
        raise NoWord(first)
    if not is_number(last, len(words)) or last < first:
        raise NoWord(last)
    return words


def asks(asker, text, first, last):
    """Whether a quote asks."""
    words = check_quote(text, first, last)
    results = asker.entries(words[first:last + 1])
    return any([result is not None and result != HOLE for result in results])


def found(writer, asker, text, first, last):
    """Whether a quote is found."""
    check_quote(text, first, last)
    return Quotes(writer, asker, text).is_found((first, last))


def home_places(writer, asker, text, first, last):
    """The ascending list of the hit places of the ways of a quote that are at home."""
    check_quote(text, first, last)
    return start_places(Quotes(writer, asker, text).block_footings((first, last)))


def missed(writer, asker, text):
    """Yields the pairs (first, last) of the missed quotes of a text, ascending."""
    quotes = Quotes(writer, asker, text)
    for first in range(quotes.many):
        for last in quotes.missed_ends(first):
            yield first, last
