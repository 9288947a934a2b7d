"""Rewordings: other texts of a quote that have the same hits in each book."""

from quotehome.blocks import blocks_of
from quotehome.chains import written_rules
from quotehome.parts import part_at
from quotehome.rules import MOST_SIDE_WORDS
from quotehome.words import text_of, words_of


def other_sides(chain, met):
    """The list of the pairs (entries, words as written) of the sides beside a met one, each once in its rule."""
    others = []
    for entries, written in zip(chain.rules, written_rules(chain)):
        if met in entries:
            others = others + [pair for pair in first_written(chain, written) if pair[0] != met]
    return others


def first_written(chain, rule):
    """The list of the pairs (entries, words as written) of a rule's sides; of sides that are one it has the first."""
    words = {}
    for side in rule:
        words.setdefault(chain.entries(side), side)
    return list(words.items())


def keeps_blocks(chain, blocks, number, results, more):
    """Whether words with these results have the sets of sides of these blocks, one by one.

    They are the words of the blocks, but for those of the block with this number, which are so many more.
    """
    # Only the last few blocks ahead can reach into the words of this one.
    at = max(0, number - MOST_SIDE_WORDS + 1)
    first = blocks[at].first
    while at < len(blocks) and first < len(results):
        many, _, sides, _, _ = part_at(chain.meetings, results, first, len(results))
        if set(sides) != set(blocks[at].sides):
            return False
        at += 1
        first = first + many
        if at > number and at < len(blocks) and first == blocks[at].first + more:
            return True
    return at == len(blocks) and first == len(results)


def rewordings(chain, quote):
    """Yields the rewordings of a quote, by its blocks, then by the rules and their sides, each once."""
    words = words_of(quote)
    results = chain.entries(words)
    blocks = blocks_of(results, chain.meetings)
    seen = {}
    for number, block in enumerate(blocks):
        ahead, behind = block.first, block.last + 1
        for entries, written in other_sides(chain, results[ahead:behind]):
            changed = results[:ahead] + entries + results[behind:]
            text = text_of(words[:ahead] + written + words[behind:])
            more = len(entries) + ahead - behind
            if text not in seen and keeps_blocks(chain, blocks, number, changed, more):
                seen[text] = True
                yield text
