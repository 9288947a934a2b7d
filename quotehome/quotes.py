"""The quotes of a text: where the sides of an asker's blocks are at home in a writer's graph."""

from quotehome.blocks import next_block, origin
from quotehome.walks import footing, onward, tokens_over
from quotehome.words import HOLE

# A side has at most so many words behind its first one.
REACH = 3


def home_of(entry, near, over, quote):
    """The dict of the places at which an entry is at home in a quote; None for a hole.

    The entry comes from the words of near; near and quote are pairs of numbers, a first and a last one.
    """
    if entry == HOLE:
        return None
    tokens = [token for number in range(near[0], near[1] + 1) for token in over[number].get(entry, ())]
    return {token[0]: True for token in tokens if quote[0] <= token[2] and token[3] <= quote[1]}


def side_homes(block, ahead, over, quote):
    """For each side of an asker's block the list of the homes of its entries; so many words stand ahead of it."""
    sides = []
    for number, side in enumerate(block.sides):
        homes = []
        for index, entry in enumerate(side):
            first, last = origin(block, number, index)
            homes.append(home_of(entry, (ahead + first, ahead + last), over, quote))
        sides.append(homes)
    return sides


def home_footings(block, ahead, over, quote):
    """The footings of an asker's block in a writer's tokens."""
    return [footing(homes) for homes in side_homes(block, ahead, over, quote)]


class Quotes:
    """All quotes of one text, for a writer and an asker."""

    def __init__(self, writer, asker, text):
        graph = writer(text)
        self.asker = asker
        self.results = asker.entries(graph.words)
        self.over = tokens_over(graph.tokens, len(graph.words))
        self.known = {}

    def block_at(self, at, quote):
        """For the asker's block at a word of a quote the number of the word behind it, and its footings."""
        # What lies further away changes neither the block nor the tokens that reach into it.
        near = (max(quote[0], at - REACH), min(quote[1], at + 2 * REACH))
        key = (at, near)
        if key not in self.known:
            results = self.results[at:near[1] + 1]
            block = next_block(results, 0, 0, self.asker.rules, self.asker.keep)
            self.known[key] = (at + block.last + 1, home_footings(block, at, self.over, near))
        return self.known[key]

    def rows(self, quote):
        """The list of the footings of each block of a quote."""
        found = []
        at = quote[0]
        while at <= quote[1]:
            at, footings = self.block_at(at, quote)
            found.append(footings)
        return found

    def is_found(self, at, live, quote):
        """Whether a way of a quote is at home, or it asks nothing, if these places are live at a word of it."""
        while at <= quote[1] and (live is None or len(live) > 0):
            at, footings = self.block_at(at, quote)
            live = onward(live, footings)
        return live is None or len(live) > 0

    def missed_ends(self, first):
        """The list of the numbers of the last words of the missed quotes that begin with a word."""
        ends = []
        at = first
        live = None
        for last in range(first, len(self.results)):
            quote = (first, last)
            # Such a block, and what is live behind it, is the same in all longer quotes.
            while at + 2 * REACH <= last and (live is None or len(live) > 0):
                at, footings = self.block_at(at, quote)
                live = onward(live, footings)
            if not self.is_found(at, live, quote):
                ends.append(last)
        return ends
