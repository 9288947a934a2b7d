"""Graphs: the blocks of a whole text, with their tokens and ways."""

from quotehome.blocks import tokens_of
from quotehome.errors import NoBlock
from quotehome.words import is_number, is_word


def next_picks(picks, choices):
    """The next numbers of sides, the last one changing fastest; None behind the last ones."""
    turned = len(picks) - 1
    while turned >= 0 and picks[turned] + 1 == len(choices[turned]):
        turned = turned - 1
    if turned < 0:
        return None
    return picks[:turned] + [picks[turned] + 1] + [0] * (len(picks) - turned - 1)


def word_places(tokens):
    """The dict from each word of tokens to the dict of its places."""
    places = {}
    for place, word, _, _ in tokens:
        if word in places:
            places[word][place] = True
        else:
            places[word] = {place: True}
    return places


class Graph:
    """The row of the blocks of a text by a chain. It never changes."""

    def __init__(self, words, blocks):
        self.words = words
        self.blocks = blocks
        self.width = sum([block.width for block in blocks])
        # The blocks stand behind one another, and so do their places.
        self.tokens = tuple([token for block in blocks for token in tokens_of(block)])
        self.spots = word_places(self.tokens)

    def __len__(self):
        return len(self.blocks)

    def __getitem__(self, index):
        if not is_number(index, len(self.blocks)):
            raise NoBlock(index)
        return self.blocks[index]

    def __iter__(self):
        return iter(self.blocks)

    def __contains__(self, word):
        return is_word(word) and word in self.spots

    def __eq__(self, other):
        return isinstance(other, Graph) and self.words == other.words and self.blocks == other.blocks

    def ways(self):
        """Yields the entries of each choice of sides."""
        choices = [block.sides for block in self.blocks if len(block.sides) > 0]
        picks = [0] * len(choices)
        while picks is not None:
            yield tuple([entry for sides, pick in zip(choices, picks) for entry in sides[pick]])
            picks = next_picks(picks, choices)
