"""Rows: all that the words read so far tell of whether a quote will be found."""

from quotehome.begun import beginnings
from quotehome.blocks import many_words, tokens_of
from quotehome.editions import Edition
from quotehome.errors import NoBeginning, NoWord
from quotehome.quotes import home_footings
from quotehome.walks import onward, tokens_over
from quotehome.words import is_number, words_of


def settled(edition, row, blocks):
    """The index of the word behind the settled blocks and the live places there, None for any place.

    The blocks are the decided ones of the writer.
    """
    words, out, start, end, live = row
    stop = len(words) if end == -1 else end
    over = tokens_over([token for block in blocks for token in tokens_of(block)], len(words))
    places = {place: True for place in live} if len(live) > 0 else None
    at = start
    for block in edition.asked(words[start:stop], end != -1):
        if start + block.last >= many_words(blocks):
            return (at, places)
        places = onward(places, home_footings(block, start, over, (out, stop - 1)))
        at = start + block.last + 1
    return (at, places)


def row_from(edition, row, at, places, blocks):
    """A row, with the words of the writer's block that has a word, from there on; places are live at this word."""
    words, out, start, end, live = row
    stop = len(words) if end == -1 else end
    later = [block for block in blocks if block.last >= at]
    base = later[0].first if len(later) > 0 else many_words(blocks)
    place = later[0].place if len(later) > 0 else sum([block.width for block in blocks])
    standing = edition.standing(words[base:], out - base, stop - base)
    live = [] if places is None else [where - place for where in places]
    return (standing, max(0, out - base), at - base, -1 if end == -1 else end - base, tuple(sorted(live)))


def row_behind(edition, row, is_over=False):
    """The row that words read and a quote come to, True or False.

    They are told as in a row, but blocks may be decided that are not settled yet; all are if the text is over.
    """
    blocks = edition.written(row[0], is_over)
    at, places = settled(edition, row, blocks)
    if places is not None and len(places) == 0:
        return False
    if at == row[3]:
        return True
    return row_from(edition, row, at, places, blocks)


def first_row(writer, asker, begun):
    """The row behind words that the writer has begun, ahead of a quote."""
    if begun not in beginnings(writer):
        raise NoBeginning(begun)
    edition = Edition(writer, asker)
    words = tuple([edition.of_sort[entry] for entry in begun])
    return (words, len(words), len(words), -1, ())


def read_row(writer, asker, row, word):
    """The row behind one more word, True or False."""
    words, out, start, end, live = row
    return row_behind(Edition(writer, asker), (words + (word,), out, start, end, live))


def end_row(writer, asker, row):
    """The row behind the end of the quote, True or False."""
    words, out, start, end, live = row
    return row_behind(Edition(writer, asker), (words, out, start, len(words), live))


def last_row(writer, asker, row):
    """Whether the quote of a row, which has ended, is found if the text ends, too."""
    return row_behind(Edition(writer, asker), row, True)


def row_of(writer, asker, text, first, last=None):
    """The row of a whole text with a quote from a word on, perhaps to a last one; True or False."""
    words = words_of(text)
    if not is_number(first, len(words) + 1):
        raise NoWord(first)
    if last is not None and (not is_number(last, len(words)) or last < first):
        raise NoWord(last)
    return row_behind(Edition(writer, asker), (words, first, first, -1 if last is None else last + 1, ()))
