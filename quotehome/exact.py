"""Exact quotes: ways that lie in a graph whose sides keep their lengths."""

from quotehome.blocks import origin
from quotehome.home import asks, check_quote
from quotehome.phrases import word_homes, word_places
from quotehome.quotes import side_homes
from quotehome.walks import tokens_over
from quotehome.words import text_of


class Lattice:
    """The entries of all sides of a graph, by numbers, and those that stand directly behind each on its ways."""

    def __init__(self, graph):
        # Each spot is like a token, but has the number of the entry for its place.
        self.spots = []
        self.behind = []
        ends = []
        for block in graph:
            if len(block.sides) > 0:
                sides = [self.numbers(block, number) for number in range(len(block.sides))]
                for end in ends:
                    self.behind[end] = [side[0] for side in sides]
                ends = [side[-1] for side in sides]

    def numbers(self, block, number):
        """Takes the entries of a side of a block; returns the list of their numbers."""
        start = len(self.spots)
        side = block.sides[number]
        for index, entry in enumerate(side):
            self.spots.append((start + index, entry) + origin(block, number, index))
            self.behind.append([start + index + 1] if index + 1 < len(side) else [])
        return list(range(start, start + len(side)))


def walked(live, homes, behind):
    """The dict of the entries to which a side leads from live entries, from any place if live is None."""
    for home in homes:
        if live is None:
            live = home
        else:
            live = {entry: True for last in live for entry in behind[last] if home is None or entry in home}
    return live


def is_somewhere(rows, behind):
    """Whether some way lies among entries; each row has the sides of an asked block with the homes of their entries."""
    worded = [number for number, sides in enumerate(rows) if len(sides) > 0 and sides[0][0] is not None]
    if len(worded) == 0:
        return False
    live = None
    # Holes ahead of the first word and behind the last one may lie outside of the other graph.
    for sides in rows[worded[0]:worded[-1] + 1]:
        if len(sides) > 0:
            live = {entry: True for homes in sides for entry in walked(live, homes, behind)}
    return len(live) > 0


def lies(asked, written):
    """Whether some way of a graph lies in another one."""
    lattice = Lattice(written)
    numbers = word_places(lattice.spots)
    return is_somewhere([[word_homes(side, numbers) for side in block.sides] for block in asked], lattice.behind)


def found_exactly(writer, asker, text, first, last):
    """Whether a quote is found exactly."""
    words = check_quote(text, first, last)
    if not asks(asker, text, first, last):
        return True
    lattice = Lattice(writer(text))
    over = tokens_over(lattice.spots, len(words))
    asked = asker(text_of(words[first:last + 1]))
    return is_somewhere([side_homes(block, first, over, (first, last)) for block in asked], lattice.behind)
