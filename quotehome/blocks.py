"""Blocks: the parts of a text with their places."""

from quotehome.parts import part_at
from quotehome.words import HOLE


class Block:
    """Some words of a text with their sides, from a place on. It never changes."""

    def __init__(self, first, last, place, width, sides, is_own):
        self.first = first
        self.last = last
        self.place = place
        self.width = width
        self.sides = sides
        self.is_own = is_own

    def __eq__(self, other):
        return isinstance(other, Block) and block_row(self) == block_row(other)


def block_row(block):
    """The attributes of a block, the width excepted, which hangs on the sides alone."""
    return (block.first, block.last, block.place, block.sides, block.is_own)


def blocks_of(results, meetings):
    """The tuple of the blocks of a row of words with these results."""
    blocks = []
    first = 0
    place = 0
    stop = len(results)
    while first < stop:
        entry = results[first]
        if entry in meetings or entry is None:
            many, width, sides, is_own, _ = part_at(meetings, results, first, stop)
            blocks.append(Block(first, first + many - 1, place, width, sides, is_own))
            first = first + many
            place = place + width
        else:
            blocks.append(Block(first, first, place, 1, ((entry,),), True))
            first = first + 1
            place = place + 1
    return tuple(blocks)


def tokens_of(block):
    """The ascending list of the tokens of a block."""
    if block.width == 1 and len(block.sides) == 1:
        entry = block.sides[0][0]
        return [(block.place, entry, block.first, block.last)] if entry != HOLE else []
    own = block.sides[0] if block.is_own else ()
    tokens = [
        (block.place + index, entry, block.first + index, block.first + index)
        for index, entry in enumerate(own) if entry != HOLE]
    if len(block.sides) == 1 and block.is_own:
        return tokens
    others = block.sides[1:] if block.is_own else block.sides
    more = [
        (block.place + index, entry, block.first, block.last)
        for side in others for index, entry in enumerate(side) if entry != HOLE]
    return sorted(set(tokens + more))
