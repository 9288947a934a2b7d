"""Rules, which put sides of words beside one another, and the step that has them."""

from quotehome.errors import InvalidStep
from quotehome.steps import Step, quoted
from quotehome.words import is_word, text_of

LEAST_SIDES = 2
MOST_SIDES = 4
MOST_SIDE_WORDS = 4


def is_side(words):
    """Whether a tuple of strings is a side as it is written."""
    return 1 <= len(words) <= MOST_SIDE_WORDS and all([is_word(word) for word in words])


def rule_of(value):
    """The tuple of the sides that any value writes as a rule; None if it is no rule."""
    if not isinstance(value, str):
        return None
    sides = tuple([tuple(side.split(" ")) for side in value.split(" = ")])
    if not LEAST_SIDES <= len(sides) <= MOST_SIDES or not all([is_side(side) for side in sides]):
        return None
    return sides


def rule_text(rule):
    """A rule as it is written."""
    return " = ".join([text_of(side) for side in rule])


def rule_line(rule, keep):
    """The line of a rule in the text of a chain."""
    return f"same {rule_text(rule)}" if keep else f"first {rule_text(rule)}"


def each_once(sides):
    """The tuple of the sides, each at the first of its places only."""
    return tuple({side: True for side in sides})


class Same(Step):
    """Puts the other sides of its rules beside the words of a side."""

    MOST = 8

    def __init__(self, *rules, keep=True):
        if not 1 <= len(rules) <= Same.MOST:
            raise InvalidStep("rules", None)
        sides = [rule_of(rule) for rule in rules]
        if None in sides:
            raise InvalidStep("rule", sides.index(None))
        if not isinstance(keep, bool):
            raise InvalidStep("keep", None)
        self.rules = tuple(sides)
        self.keep = keep

    def result(self, value):
        return value

    def __eq__(self, other):
        return isinstance(other, Same) and self.rules == other.rules and self.keep == other.keep

    def __str__(self):
        return "\n".join([rule_line(rule, self.keep) for rule in self.rules])

    def __repr__(self):
        return f"Same({quoted([rule_text(rule) for rule in self.rules])})"
