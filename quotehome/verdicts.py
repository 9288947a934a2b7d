"""Verdicts: which beginnings of a writer are safe for an asker."""

from quotehome.begun import first_begun
from quotehome.rows import check_begun
from quotehome.words import words_of


class Verdict:
    """What is told of two chains. It never changes."""

    def __init__(self, writer, asker, safe, least, rows):
        self.chains = (writer, asker)
        self.safe = safe
        self.least = least
        self.rows = rows
        self.follows = len(least) == 0

    @property
    def writer(self):
        """The writer that was judged."""
        return self.chains[0]

    @property
    def asker(self):
        """The asker that was judged."""
        return self.chains[1]

    @property
    def misses(self):
        """The dict from the beginnings that are not safe to a least miss of each."""
        return {begun: self.least[begun] for begun in self.least}

    def __bool__(self):
        return bool(self.follows)

    def __eq__(self, other):
        return isinstance(other, Verdict) and self.chains == other.chains

    def is_safe(self, begun):
        """Whether a beginning is safe."""
        check_begun(self.writer, begun)
        return begun in self.safe

    def starts(self, text):
        """The ascending list of the numbers of the words at which a safe beginning is begun."""
        words = words_of(text)
        results = self.writer.entries(words)
        found = []
        at = 0
        for number in range(len(words)):
            at = first_begun(self.writer, results, at, number)
            if results[at:number] in self.safe:
                found.append(number)
        return found
