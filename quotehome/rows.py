"""Rows: all that the words read so far tell of whether a quote will be found."""

from quotehome.editions import Edition, answer, row_told
from quotehome.errors import NoBeginning, NoWord
from quotehome.words import is_number, words_of


def check_begun(writer, begun):
    """Raises NoBeginning if any value is no beginning of a writer."""
    if begun not in list(writer.begins):
        raise NoBeginning(begun)


def row_behind(writer, asker, shape, live, is_over=False):
    """The row that words read and a quote come to, True or False."""
    return row_told(answer(Edition(writer, asker).move(shape, is_over), live))


def first_row(writer, asker, begun):
    """The row behind words that the writer has begun, ahead of a quote."""
    check_begun(writer, begun)
    words = Edition(writer, asker).words_for(begun)
    return (words, len(words), len(words), -1, ())


def read_row(writer, asker, row, word):
    """The row behind one more word, True or False."""
    words, out, start, end, live = row
    return row_behind(writer, asker, (words + (word,), out, start, end), live)


def end_row(writer, asker, row):
    """The row behind the end of the quote, True or False."""
    words, out, start, _, live = row
    return row_behind(writer, asker, (words, out, start, len(words)), live)


def last_row(writer, asker, row):
    """Whether the quote of a row, which has ended, is found if the text ends, too."""
    words, out, start, end, live = row
    return row_behind(writer, asker, (words, out, start, end), live, True)


def row_of(writer, asker, text, first, last=None):
    """The row of a whole text with a quote from a word on, perhaps to a last one; True or False."""
    words = words_of(text)
    if not is_number(first, len(words) + 1):
        raise NoWord(first)
    if last is not None and (not is_number(last, len(words)) or last < first):
        raise NoWord(last)
    return row_behind(writer, asker, (words, first, first, -1 if last is None else last + 1), ())
