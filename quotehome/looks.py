"""Looks: whether a tuple of rows shows that a beginning is safe, and a text with a quote that it is not."""

from quotehome.editions import Edition
from quotehome.errors import InvalidText
from quotehome.home import found
from quotehome.rows import check_begun
from quotehome.tables import Table
from quotehome.words import is_number, words_of


def words_or_none(text):
    """The tuple of the words of any value that is a text; None if it is not."""
    try:
        return words_of(text)
    except InvalidText:
        return None


def shows_safe(writer, asker, begun, rows):
    """Whether any value is a table for a beginning."""
    check_begun(writer, begun)
    if not isinstance(rows, tuple):
        return False
    edition = Edition(writer, asker)
    words = edition.words_for(begun)
    return Table(edition, rows).shows((words, len(words), len(words), -1), ())


def shows_missed(writer, asker, begun, miss):
    """Whether any value is a miss for a beginning."""
    check_begun(writer, begun)
    if not isinstance(miss, tuple) or len(miss) != 3:
        return False
    text, first, last = miss
    words = words_or_none(text)
    if words is None or not is_number(first, len(words)) or not is_number(last, len(words)):
        return False
    if last < first or writer.entries(words[:first]) != begun:
        return False
    return not found(writer, asker, text, first, last)
