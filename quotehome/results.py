"""Results: what word steps, one after another, make of words."""

from quotehome.steps import Stem, Stop
from quotehome.words import HOLE


def changes_of(step):
    """The dict from the words that a Stop, a Drop or a Swap changes to what it makes of them."""
    words = step.words if isinstance(step, Stop) else [first for first, _ in step.pairs]
    return {word: step.result(word) for word in words}


def composed(steps):
    """The dict from the words that steps, none of them a Stem, change to what they make of them together."""
    table = {}
    for step in reversed(list(steps)):
        made = {word: table.get(value, value) for word, value in changes_of(step).items()}
        table = {**table, **made}
    return table


class Turning:
    """What word steps do: a table ahead of the Stem, the Stem if there is one, and a table behind it."""

    def __init__(self, steps):
        places = [index for index, step in enumerate(steps) if isinstance(step, Stem)]
        at = places[0] if len(places) > 0 else len(steps)
        self.stem = steps[at] if len(places) > 0 else None
        self.ahead = composed(steps[:at])
        self.behind = composed(steps[at + 1:])
        # Without steps every word is its own result.
        self.is_plain = len(steps) == 0

    def result(self, word):
        """The result of a word."""
        value = self.ahead.get(word, word)
        if self.stem is None or value is None or value == HOLE:
            return value
        value = self.stem.result(value)
        return self.behind.get(value, value)

    def turned(self, words):
        """The tuple of the results of words."""
        if self.is_plain:
            return tuple(words)
        return tuple([self.result(word) for word in words])
