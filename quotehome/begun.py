"""Beginnings: what a chain has begun behind the words that it has read."""

from quotehome.blocks import blocks_of, many_words
from quotehome.errors import NoWord
from quotehome.words import ascending, is_number, words_of


def beginnings(chain):
    """The ascending tuple of the beginnings of a chain."""
    sides = [side for rule in chain.rules for side in rule]
    return ascending([()] + [side[:many] for side in sides for many in range(len(side))])


def begun(chain, text, first):
    """What is begun behind the words of a text ahead of a number."""
    words = words_of(text)
    if not is_number(first, len(words) + 1):
        raise NoWord(first)
    results = chain.entries(words[:first])
    blocks = blocks_of(results, chain.rules, chain.keep, beginnings(chain))
    return results[many_words(blocks):]
