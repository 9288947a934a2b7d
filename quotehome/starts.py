"""Starts: words at which a quote may begin and is found, however it ends."""

from quotehome.errors import NoWord
from quotehome.judging import judge
from quotehome.words import is_number, words_of


def snap(writer, asker, text, first):
    """The greatest number up to first of a word at which a safe beginning is begun, or None."""
    verdict = judge(writer, asker)
    if not is_number(first, len(words_of(text))):
        raise NoWord(first)
    return max([number for number in verdict.starts(text) if number <= first], default=None)
