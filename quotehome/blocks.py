"""Blocks: the parts into which a chain parts a row of words."""

from quotehome.rules import MOST_SIDE_WORDS, each_once
from quotehome.words import HOLE


class Block:
    """Some words of a text with their sides, from a place on. It never changes."""

    def __init__(self, first, last, place, sides, is_own):
        self.first = first
        self.last = last
        self.place = place
        self.width = max([len(side) for side in sides], default=0)
        self.sides = sides
        self.is_own = is_own

    def __eq__(self, other):
        return isinstance(other, Block) and block_row(self) == block_row(other)


def block_row(block):
    """The attributes of a block, the width excepted, which hangs on the sides alone."""
    return (block.first, block.last, block.place, block.sides, block.is_own)


def met_side(results, first, rules):
    """The longest side that is met at a word; None if there is none."""
    met = None
    for rule in rules:
        for side in rule:
            longer = met is None or len(side) > len(met)
            if longer and results[first:first + len(side)] == side:
                met = side
    return met


def sides_beside(met, rules, keep):
    """The sides of a block that meets a side; that side stands first, if it is among them."""
    having = [rule for rule in rules if met in rule]
    sides = [side for rule in having for side in rule] if keep else [rule[0] for rule in having]
    return each_once([met] + sides) if met in sides else each_once(sides)


def next_block(results, first, place, rules, keep):
    """The block that begins at a word, whose place is known."""
    if results[first] is None:
        return Block(first, first, place, (), False)
    met = met_side(results, first, rules)
    if met is None:
        return Block(first, first, place, ((results[first],),), True)
    sides = sides_beside(met, rules, keep)
    return Block(first, first + len(met) - 1, place, sides, sides[0] == met)


def blocks_of(results, rules, keep, waiting=()):
    """The tuple of the blocks of a row of words with these results; those of last ones that are waiting make none."""
    blocks = []
    first = 0
    place = 0
    while first < len(results) and results[first:first + MOST_SIDE_WORDS] not in waiting:
        block = next_block(results, first, place, rules, keep)
        blocks.append(block)
        first = block.last + 1
        place = place + block.width
    return tuple(blocks)


def many_words(blocks):
    """How many words the first blocks of a text have."""
    return blocks[-1].last + 1 if len(blocks) > 0 else 0


def origin(block, number, index):
    """The numbers of the first and the last word that an entry of a side comes from, told by both their numbers."""
    if block.is_own and number == 0:
        return (block.first + index, block.first + index)
    return (block.first, block.last)


def tokens_of(block):
    """The list of the tokens of a block, perhaps some of them twice."""
    tokens = []
    for number, side in enumerate(block.sides):
        for index, entry in enumerate(side):
            if entry != HOLE:
                tokens.append((block.place + index, entry) + origin(block, number, index))
    return tokens
