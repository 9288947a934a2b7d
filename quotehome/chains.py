"""Chains: rows of steps, which turn words into results and texts into graphs."""

from quotehome.blocks import blocks_of
from quotehome.errors import InvalidChain, InvalidWord
from quotehome.graphs import Graph
from quotehome.lines import steps_of
from quotehome.parts import begins_of, meetings_of
from quotehome.results import Turning
from quotehome.rules import Same, each_once
from quotehome.steps import Drop, Stem, Stop, Swap
from quotehome.words import is_word, words_of


def check_steps(steps):
    """Raises InvalidChain if any values cannot be the steps of a chain, whatever the rules are."""
    if len(steps) > Chain.MOST:
        raise InvalidChain("steps", None)
    for index, step in enumerate(steps):
        if not isinstance(step, (Stop, Swap, Stem, Same)):
            raise InvalidChain("step", index)
    stems = [index for index, step in enumerate(steps) if isinstance(step, Stem)]
    if len(stems) > 1:
        raise InvalidChain("stem", stems[1])
    for index, step in enumerate(steps[:-1]):
        if isinstance(step, Same):
            raise InvalidChain("last", index + 1)


def check_drop(steps, rules):
    """Raises InvalidChain for the first rule, as written, that a Drop does not bear."""
    if not any([isinstance(step, Drop) for step in steps]):
        return
    for number, rule in enumerate(rules):
        if any([len(side) > 1 for side in rule]):
            raise InvalidChain("drop", number)


def check_sides(rules):
    """Raises InvalidChain for the first rule with a side of results that is none of entries."""
    for number, rule in enumerate(rules):
        for side in rule:
            if None in side or side[0] == Chain.HOLE or side[-1] == Chain.HOLE:
                raise InvalidChain("side", number)


def written_rules(chain):
    """The rules of a chain as they are written."""
    return chain.steps[-1].rules if len(chain.rules) > 0 else ()


class Chain:
    """A row of steps. It never changes."""

    MOST = 6
    HOLE = "*"

    def __init__(self, *steps):
        check_steps(steps)
        self.steps = steps
        self.turning = Turning([step for step in steps if not isinstance(step, Same)])
        self.keep = True
        written = ()
        if len(steps) > 0 and isinstance(steps[-1], Same):
            self.keep = steps[-1].keep
            written = steps[-1].rules
        check_drop(steps, written)
        rules = [[self.entries(side) for side in rule] for rule in written]
        check_sides(rules)
        self.rules = tuple([each_once(rule) for rule in rules])
        self.meetings = meetings_of(self.rules, self.keep)
        self.begins = begins_of(self.rules)
        self.sided = {entry: True for rule in self.rules for side in rule for entry in side if entry != Chain.HOLE}

    def entries(self, words):
        """The tuple of the results of words, as of those of a side."""
        return self.turning.turned(words)

    def result(self, word):
        """The result of a word: a word, a hole, or None for nothing."""
        if not is_word(word):
            raise InvalidWord(word)
        return self.turning.result(word)

    def __call__(self, text):
        """The graph of a text."""
        words = words_of(text)
        return Graph(words, blocks_of(self.entries(words), self.meetings))

    def bare(self):
        """The chain of the word steps alone."""
        steps = [step for step in self.steps if not isinstance(step, Same)]
        return Chain(*steps)

    def with_rules(self, *rules, keep=True):
        """The chain of the word steps with these rules."""
        if len(rules) == 0:
            return self.bare()
        return self.bare() | Same(*rules, keep=keep)

    def __or__(self, other):
        behind = other.steps if isinstance(other, Chain) else (other,)
        steps = self.steps + behind
        return Chain(*steps)

    def __len__(self):
        return len(self.steps)

    def __eq__(self, other):
        return isinstance(other, Chain) and self.steps == other.steps

    def __str__(self):
        return "\n".join([str(step) for step in self.steps])

    def __repr__(self):
        return f"Chain({len(self.steps)} steps)"

    @classmethod
    def read(cls, text):
        """The chain that any value writes as a text."""
        steps = steps_of(text, cls.MOST)
        return cls(*steps)
