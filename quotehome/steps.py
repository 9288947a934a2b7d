"""Word steps: each turns one word into a word, a hole or nothing."""

from quotehome.errors import InvalidStep
from quotehome.words import HOLE, ascending, is_letters, is_word, text_of

MOST_KEPT = 20
MOST_ENDING_LETTERS = 4


def is_ending(value):
    """Whether any value is an ending."""
    return is_letters(value, MOST_ENDING_LETTERS)


def quoted(values):
    """The strings as they stand between the parentheses of a call."""
    return ", ".join([repr(value) for value in values])


def quoted_pairs(pairs):
    """The pairs as they stand between the parentheses of a call."""
    return ", ".join([f"{first}={second!r}" for first, second in pairs])


def kept_text(keep):
    """The kept words as they stand behind the endings of a line."""
    return f" - {text_of(keep)}" if len(keep) > 0 else ""


def is_keep(keep):
    """Whether any value is a list or tuple of kept words, not too many."""
    if not isinstance(keep, (list, tuple)) or len(keep) > MOST_KEPT:
        return False
    return all([is_word(word) for word in keep])


def ascending_pairs(pairs):
    """The pairs of any value as an ascending tuple; raises InvalidStep."""
    if not isinstance(pairs, dict) or not 1 <= len(pairs) <= Swap.MOST:
        raise InvalidStep("words", None)
    for first, second in pairs.items():
        if not is_word(first) or not is_word(second):
            raise InvalidStep("word", None)
    return tuple(sorted(pairs.items()))


class Step:
    """A step that leaves every result as it is; the base of all steps."""

    def result(self, value):
        return value

    def __eq__(self, other):
        # The steps below are plain steps too, and equal to none.
        return isinstance(other, Step) and self.__class__.__name__ == other.__class__.__name__

    def __str__(self):
        return ""

    def __repr__(self):
        return "Step()"


class Stop(Step):
    """Makes each of its words a hole."""

    MOST = 20

    def __init__(self, *words):
        if not 1 <= len(words) <= Stop.MOST:
            raise InvalidStep("words", None)
        for index, word in enumerate(words):
            if not is_word(word):
                raise InvalidStep("word", index)
        self.words = ascending(words)

    def result(self, value):
        return HOLE if value in self.words else value

    def __eq__(self, other):
        # A Drop is a Stop too, but does something else.
        return isinstance(other, Stop) and not isinstance(other, Drop) and self.words == other.words

    def __str__(self):
        return f"stop {text_of(self.words)}"

    def __repr__(self):
        return f"Stop({quoted(self.words)})"


class Drop(Stop):
    """Makes each of its words nothing."""

    def __init__(self, *words):
        super().__init__(*words)

    def result(self, value):
        return None if value in self.words else value

    def __eq__(self, other):
        return isinstance(other, Drop) and self.words == other.words

    def __str__(self):
        return f"drop {text_of(self.words)}"

    def __repr__(self):
        return f"Drop({quoted(self.words)})"


class Swap(Step):
    """Turns the first word of each of its pairs into the second one, once."""

    MOST = 10

    def __init__(self, **pairs):
        self.pairs = ascending_pairs(pairs)

    @classmethod
    def of(cls, pairs):
        """The Swap with the pairs of a dict."""
        checked = ascending_pairs(pairs)
        # A pair of the word "self" cannot be passed by its name, so any other one goes first.
        swap = cls(a="a")
        swap.pairs = checked
        return swap

    def result(self, value):
        for first, second in self.pairs:
            if value == first:
                return second
        return value

    def __eq__(self, other):
        return isinstance(other, Swap) and self.pairs == other.pairs

    def __str__(self):
        return f"swap {text_of([text_of(pair) for pair in self.pairs])}"

    def __repr__(self):
        return f"Swap({quoted_pairs(self.pairs)})"


class Stem(Step):
    """Takes the longest ending off a word that is not kept."""

    MOST = 8
    LEAST = 2

    def __init__(self, *endings, keep=()):
        if not 1 <= len(endings) <= Stem.MOST:
            raise InvalidStep("words", None)
        for index, ending in enumerate(endings):
            if not is_ending(ending):
                raise InvalidStep("ending", index)
        if not is_keep(keep):
            raise InvalidStep("keep", None)
        self.endings = ascending(endings)
        self.keep = ascending(keep)
        # The lengths of the endings, the greatest one first.
        self.sizes = tuple(reversed(sorted({len(ending) for ending in endings})))

    def result(self, value):
        if value is None or value in self.keep:
            return value
        for size in self.sizes:
            if len(value) - size >= Stem.LEAST and value[-size:] in self.endings:
                return value[:-size]
        return value

    def __eq__(self, other):
        return isinstance(other, Stem) and self.endings == other.endings and self.keep == other.keep

    def __str__(self):
        return f"stem {text_of(self.endings)}{kept_text(self.keep)}"

    def __repr__(self):
        return f"Stem({quoted(self.endings)})"
