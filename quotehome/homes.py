"""Homes: where the entries of an asker's part are found in what a writer makes of the words near it.

What the writer makes is told by spans, one for each word. A span is a tuple (first, last, base, own, others): the
numbers of the first and the last word of its block, the place of the block, its own side, () if it has none, and the
indexes of the entries of its other sides, as in a part.
"""

from quotehome.parts import is_waiting, part_at
from quotehome.walks import footing
from quotehome.words import HOLE


def spans_of(meetings, results, begins):
    """The list of the spans of the words in decided blocks, and the place behind these.

    All blocks are decided if there are no beginnings.
    """
    spans = []
    first = 0
    place = 0
    stop = len(results)
    while first < stop:
        entry = results[first]
        if entry in meetings:
            if is_waiting(begins, results, first, stop):
                break
            many, width, sides, is_own, others = part_at(meetings, results, first, stop)
            own = sides[0] if is_own else ()
            spans.extend([(first, first + many - 1, place, own, others)] * many)
            first = first + many
            place = place + width
        else:
            spans.append((first, first, place, () if entry is None else (entry,), ()))
            first = first + 1
            place = place if entry is None else place + 1
    return (spans, place)


def home_of(entry, first, last, spans, quote):
    """The list of the places at which a word is at home in a quote; it is asked for the words from first to last.

    A quote is told here by the numbers of its first and its last word.
    """
    places = []
    at = first
    while at <= last:
        begin, end, base, own, others = spans[at]
        if len(own) > 0:
            places.extend([
                base + number - begin for number in range(at, min(end, last) + 1) if own[number - begin] == entry])
        if entry in others and quote[0] <= begin and end <= quote[1]:
            places.extend([base + index for index in others[entry]])
        at = end + 1
    return places


def home_at(entry, at, spans, quote):
    """The list of the places at which a word is at home in a quote, if it is asked for one word."""
    begin, end, base, own, others = spans[at]
    places = [base + at - begin] if len(own) > 0 and own[at - begin] == entry else []
    if entry in others and quote[0] <= begin and end <= quote[1]:
        return places + [base + index for index in others[entry]]
    return places


def homes_at(part, at, spans, quote):
    """For each side of an asker's part at a word the list of the homes of its entries, None for a hole."""
    many, _, sides, is_own, _ = part
    last = at + many - 1
    rows = [
        [None if entry == HOLE else home_of(entry, at, last, spans, quote) for entry in side]
        for side in (sides[1:] if is_own else sides)]
    if not is_own:
        return rows
    own = [
        None if entry == HOLE else home_at(entry, at + index, spans, quote) for index, entry in enumerate(sides[0])]
    return [own] + rows


def footings_at(part, at, spans, quote):
    """The footings of the sides of an asker's part at a word."""
    many, width, sides, _, _ = part
    if many == 1 and width == 1 and len(sides) == 1:
        # Most words are such ones; this is what the line below tells of them.
        entry = sides[0][0]
        return [(1, None if entry == HOLE else home_at(entry, at, spans, quote))]
    return [footing(homes) for homes in homes_at(part, at, spans, quote)]
