"""Beginnings: what a chain has begun behind the words that it has read."""

from quotehome.errors import NoWord
from quotehome.parts import is_waiting, part_at
from quotehome.words import ascending, is_number, words_of


def beginnings(chain):
    """The ascending tuple of the beginnings of a chain."""
    return ascending(list(chain.begins))


def first_begun(chain, results, first, stop):
    """The number of the first word of what is begun behind words with these results, ahead of stop.

    All blocks ahead of the first one are decided.
    """
    while not is_waiting(chain.begins, results, first, stop):
        first = first + part_at(chain.meetings, results, first, stop)[0]
    return first


def begun(chain, text, first):
    """What is begun behind the words of a text ahead of a number."""
    words = words_of(text)
    if not is_number(first, len(words) + 1):
        raise NoWord(first)
    results = chain.entries(words[:first])
    return results[first_begun(chain, results, 0, first):]
