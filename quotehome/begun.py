"""Beginnings: what a chain has begun behind the words that it has read."""

from quotehome.errors import NoWord
from quotehome.parts import is_waiting, part_at
from quotehome.words import ascending, is_number, words_of


def beginnings(chain):
    """The ascending tuple of the beginnings of a chain."""
    return ascending(list(chain.begins))


def begun_behind(chain, results, first):
    """What is begun behind words with these results, if all blocks ahead of one of them are decided."""
    while not is_waiting(chain.begins, results, first):
        first = first + part_at(chain.meetings, results, first, len(results))[0]
    return results[first:]


def begun(chain, text, first):
    """What is begun behind the words of a text ahead of a number."""
    words = words_of(text)
    if not is_number(first, len(words) + 1):
        raise NoWord(first)
    return begun_behind(chain, chain.entries(words[:first]), 0)
