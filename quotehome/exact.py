"""Exact quotes: ways that lie in a graph whose sides keep their lengths."""

from quotehome.blocks import blocks_of
from quotehome.home import check_quote
from quotehome.homes import homes_at
from quotehome.parts import part_at
from quotehome.phrases import word_homes
from quotehome.words import HOLE

# A spot is the number of an entry, if the entries of all sides of all blocks of a graph are counted in their order.


def spots_behind(blocks):
    """For each spot the list of those that stand directly behind it on the ways of a graph with these blocks."""
    behind = []
    ends = []
    for block in blocks:
        if len(block.sides) > 0:
            starts = []
            last_ends = ends
            ends = []
            for side in block.sides:
                starts.append(len(behind))
                behind.extend([[len(behind) + index] for index in range(1, len(side))])
                ends.append(len(behind))
                behind.append([])
            for end in last_ends:
                behind[end] = starts
    return behind


def word_spots(blocks):
    """The dict from each entry of blocks to the dict of its spots."""
    spots = {}
    spot = 0
    for block in blocks:
        for side in block.sides:
            for entry in side:
                if entry not in spots:
                    spots[entry] = {}
                spots[entry][spot] = True
                spot += 1
    return spots


def spots_of(sides, start):
    """The dict from each entry of sides to the list of its spots, from a spot on; they are counted from the first."""
    entries = [entry for side in sides for entry in side]
    spots = {}
    for spot in range(start, len(entries)):
        spots.setdefault(entries[spot], []).append(spot)
    return spots


def spot_spans(blocks):
    """For each word of blocks a span, in which spots are in the place of places."""
    spans = []
    spot = 0
    for block in blocks:
        own = block.sides[0] if block.is_own else ()
        many = sum([len(side) for side in block.sides])
        others = spots_of(block.sides, len(own)) if many > len(own) else ()
        spans.extend([(block.first, block.last, spot, own, others)] * (block.last - block.first + 1))
        spot = spot + many
    return spans


def walked(live, homes, behind):
    """The spots to which a side leads from live ones, a list or a dict; from any spot if live is None."""
    for home in homes:
        if live is None:
            live = home
        else:
            live = {spot: True for last in live for spot in behind[last] if home is None or spot in home}
    return live


def is_somewhere(rows, behind):
    """Whether some way lies among spots; each row has the sides of an asked block with the homes of their entries."""
    worded = [number for number, sides in enumerate(rows) if len(sides) > 0 and sides[0][0] is not None]
    if len(worded) == 0:
        return False
    live = None
    # Holes ahead of the first word and behind the last one may lie outside of the other graph.
    for sides in rows[worded[0]:worded[-1] + 1]:
        if len(sides) == 1:
            live = walked(live, sides[0], behind)
        elif len(sides) > 1:
            live = {spot: True for homes in sides for spot in walked(live, homes, behind)}
        if len(live) == 0:
            return False
    return True


def lies(asked, written):
    """Whether some way of a graph lies in another one."""
    spots = word_spots(written.blocks)
    rows = [[word_homes(side, spots) for side in block.sides] for block in asked.blocks]
    return is_somewhere(rows, spots_behind(written.blocks))


def found_exactly(writer, asker, text, first, last):
    """Whether a quote is found exactly."""
    words = check_quote(text, first, last)
    results = asker.entries(words)
    if not any([result is not None and result != HOLE for result in results[first:last + 1]]):
        return True
    blocks = blocks_of(writer.entries(words), writer.meetings)
    spans = spot_spans(blocks)
    rows = []
    at = first
    while at <= last:
        part = part_at(asker.meetings, results, at, last + 1)
        rows.append(homes_at(part, at, spans, (first, last)))
        at = at + part[0]
    return is_somewhere(rows, spots_behind(blocks))
