"""The quotes of a text: which of them are missed, and where they are at home."""

from quotehome.homes import footings_at, spans_of
from quotehome.parts import part_at
from quotehome.walks import onward
from quotehome.words import words_of

# A side has at most so many words behind its first one.
REACH = 3
# So many words behind the first one of a block decide it, and the tokens that reach into its words.
SIGHT = 2 * REACH


class Quotes:
    """All quotes of one text, for a writer and an asker.

    A state (at, ahead, live) tells of a quote that goes on: the number of the word behind some of its blocks, how many
    words of the quote stand ahead, as far as that matters, and the ascending tuple of the live places, None for any.
    """

    def __init__(self, writer, asker, text):
        words = words_of(text)
        self.asking = asker
        self.many = len(words)
        self.results = asker.entries(words)
        self.spans = spans_of(writer.meetings, writer.entries(words), {})[0]
        self.known = {}
        self.told = {}

    def block_at(self, at, quote):
        """For the asker's block at a word of a quote the number of the word behind it, and its footings."""
        part = part_at(self.asking.meetings, self.results, at, quote[1] + 1)
        return (at + part[0], footings_at(part, at, self.spans, quote))

    def kept_block(self, at, quote):
        """The same, kept for all quotes that are alike for this block."""
        part = part_at(self.asking.meetings, self.results, at, quote[1] + 1)
        behind = at + part[0]
        # Blocks of the writer between these two lie in the quote whatever it is.
        key = (at, behind, quote[0] <= self.spans[at][0], self.spans[behind - 1][1] <= quote[1])
        if key not in self.known:
            self.known[key] = (behind, footings_at(part, at, self.spans, quote))
        return self.known[key]

    def block_footings(self, quote):
        """The list of the footings of each block of a quote."""
        found = []
        at = quote[0]
        while at <= quote[1]:
            at, footings = self.block_at(at, quote)
            found.append(footings)
        return found

    def is_found(self, quote):
        """Whether a way of a quote is at home, or it asks nothing."""
        at = quote[0]
        live = None
        while at <= quote[1] and (live is None or len(live) > 0):
            at, footings = self.block_at(at, quote)
            live = onward(live, footings)
        return live is None or len(live) > 0

    def is_missed_behind(self, at, live, quote):
        """Whether a quote is missed, if these places are live at a word of it."""
        while at <= quote[1] and (live is None or len(live) > 0):
            at, footings = self.kept_block(at, quote)
            live = onward(live, footings)
        return live is not None and len(live) == 0

    def step(self, state):
        """The last words of missed quotes that go on behind a state and have its next block, as runs (first, behind).

        Also the state behind this block, None if all quotes that go on there are missed, too; they are told then.
        """
        at, ahead, live = state
        first = at - ahead
        places = None if live is None else {place: True for place in live}
        behind, footings = self.kept_block(at, (first, at + SIGHT))
        places = onward(places, footings)
        if places is not None and len(places) == 0:
            return ([(at + SIGHT, self.many)], None)
        first = max(first, behind - REACH)
        runs = [
            (last, last + 1) for last in range(at + SIGHT, min(behind + SIGHT, self.many))
            if self.is_missed_behind(behind, places, (first, last))]
        return (runs, (behind, behind - first, None if places is None else tuple(sorted(places))))

    def missed_behind(self, state):
        """The missed quotes of a state that see its next block: a pair of a list of runs and such a pair or None.

        No list is empty. None if there are none.
        """
        path = []
        while state is not None and state not in self.told and state[0] + SIGHT < self.many:
            runs, behind = self.step(state)
            path.append((state, runs))
            state = behind
        told = self.told.get(state, None)
        for state_ahead, runs in reversed(list(path)):
            if len(runs) > 0:
                told = (runs, told)
            self.told[state_ahead] = told
        return told

    def missed_ends(self, first):
        """The list of the numbers of the last words of the missed quotes that begin with a word."""
        ends = [
            last for last in range(first, min(first + SIGHT, self.many))
            if self.is_missed_behind(first, None, (first, last))]
        told = self.missed_behind((first, 0, None))
        while told is not None:
            runs, told = told
            for start, behind in runs:
                ends.extend(list(range(start, behind)))
        return ends
