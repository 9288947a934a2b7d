"""Words and texts."""

from quotehome.errors import InvalidText

MOST_LETTERS = 10
HOLE = "*"


def is_letters(value, most):
    """Whether any value is a string of 1 to most letters from a to z."""
    if not isinstance(value, str) or len(value) > most:
        return False
    return value.isascii() and value.isalpha() and value.islower()


def is_word(value):
    """Whether any value is a word."""
    return is_letters(value, MOST_LETTERS)


def words_of(text):
    """The tuple of the words of a text."""
    if not isinstance(text, str):
        raise InvalidText(0)
    if text == "":
        return ()
    parts = text.split(" ")
    sizes = [len(part) for part in parts]
    # Together they are looked at faster than one by one.
    if min(sizes) == 0 or max(sizes) > MOST_LETTERS or not is_letters("".join(parts), len(text)):
        for index, part in enumerate(parts):
            if not is_word(part):
                raise InvalidText(index)
    return tuple(parts)


def text_of(words):
    """The text of a list or tuple of words."""
    return " ".join(words)


def ascending(values):
    """The tuple of the values in ascending order, each once."""
    return tuple(sorted(set(values)))


def is_number(value, many):
    """Whether any value is the number of one of so many words or blocks."""
    return isinstance(value, int) and not isinstance(value, bool) and 0 <= value < many
