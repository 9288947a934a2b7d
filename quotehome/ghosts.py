"""Ghosts: phrases that a graph seems to have and that nobody wrote."""

from quotehome.chains import written_rules
from quotehome.words import HOLE, text_of

LEAST_WORDS = 2


def runs_of(sides, many):
    """The dict with the pairs (index, words) of so many entries of a side, all of them words, behind one another."""
    runs = {}
    for side in sides:
        for index in range(len(side) - many + 1):
            words = side[index:index + many]
            if HOLE not in words:
                runs[(index, words)] = True
    return runs


def ghosts_of(sides):
    """The ascending list of the ghosts of a block with these sides; their places are counted from the block's."""
    found = {}
    for many in range(LEAST_WORDS, max([len(side) for side in sides], default=0) + 1):
        whole = runs_of(sides, many)
        shorter = runs_of(sides, many - 1)
        for index, ahead in shorter:
            for other, behind in shorter:
                words = ahead + behind[-1:]
                if other == index + 1 and ahead[1:] == behind[:-1] and (index, words) not in whole:
                    found[(index, words)] = True
    return sorted(found)


def ghosts(graph):
    """The ascending list of the ghosts of a graph."""
    # The tokens of a ghost belong to one block, and blocks of the same sides have the same ones.
    known = {block.sides: ghosts_of(block.sides) for block in graph.blocks if len(block.sides) > 1}
    return [
        (block.place + index, words) for block in graph.blocks for index, words in known.get(block.sides, [])]


def ghost_of(chain):
    """A text of the fewest words whose graph has a ghost, and the place and words of one; None if there is none."""
    # A ghost belongs to a block that meets a side, and the words of the side alone make this block.
    written = [side for rule in written_rules(chain) for side in rule]
    for side in sorted(written, key=len):
        text = text_of(side)
        told = ghosts(chain(text))
        if len(told) > 0:
            place, words = told[0]
            return (text, place, words)
    return None
