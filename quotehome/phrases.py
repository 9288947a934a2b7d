"""Phrases: the places at which the ways of one graph stand in another one."""

from quotehome.walks import backward, footing, is_worded, onward, start_places
from quotehome.words import HOLE


def word_homes(side, places):
    """The list of the homes of the entries of a side: all places of the word, None for a hole."""
    return [None if entry == HOLE else places.get(entry, {}) for entry in side]


def phrase_rows(asked, written):
    """For each block of a graph the footings of its sides in another one."""
    places = written.spots
    known = {}
    for block in asked:
        for side in block.sides:
            if side not in known:
                known[side] = footing(word_homes(side, places))
    return [[known[side] for side in block.sides] for block in asked]


def hit_places(asked, written):
    """The ascending list of the hit places of the ways of a graph in another one."""
    return start_places(phrase_rows(asked, written))


def live_rows(rows, place):
    """The live places ahead of each block, if the first word of a way stands at a place."""
    lives = []
    live = None
    for footings in rows:
        if live is None and is_worded(footings):
            live = {place: True}
        lives.append(live)
        live = onward(live, footings)
    return lives


def sides_on_ways(sides, footings, live, behind):
    """The list of the pairs (place, side) of a block with which a way goes from a live place to one behind it."""
    return [
        (place, side) for side, (length, places) in zip(sides, footings) for place in places
        if place in live and (behind is None or place + length in behind)]


def marked(asked, written, place):
    """The dict of the pairs (place, entry) of all ways with a hit place."""
    rows = phrase_rows(asked, written)
    lives = live_rows(rows, place)
    marks = {}
    behind = None
    for number in reversed(range(len(rows))):
        if is_worded(rows[number]):
            sides = sides_on_ways(asked[number].sides, rows[number], lives[number], behind)
            for spot in [(start + index, entry) for start, side in sides for index, entry in enumerate(side)]:
                marks[spot] = True
        behind = backward(behind, rows[number])
    return marks
