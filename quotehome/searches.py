"""Searches: all rows that are come to from a beginning, or a text of the fewest words with a missed quote."""

from quotehome.editions import answer
from quotehome.words import text_of

# A row is told here as in an edition, by its shape and its live places. Rows with fewer live places show no less, so
# only those with the fewest are kept.


def is_told(lives, live):
    """Whether some of the live places of rows of one shape show no less than other ones."""
    if len(live) == 0:
        return () in lives
    return any([len(places) > 0 and all([place in live for place in places]) for places in lives])


def fewest(lives):
    """The list of the live places of rows of one shape without those that others show."""
    kept = []
    for live in sorted(lives, key=len):
        if not is_told(kept, live):
            kept.append(live)
    return kept


class Search:
    """A search from one beginning of a writer, by the number of the words read, the fewest first."""

    def __init__(self, edition, begun, safe):
        words = edition.words_for(begun)
        self.edition = edition
        self.words = words
        # The live places of the rows of each shape that are known to be safe.
        self.safe = safe
        self.seen = {}
        # For each row the number of the one ahead, and the word between them, None for the quote's end.
        self.rows = []
        self.came = []
        self.level = []
        self.take((words, len(words), len(words), -1), (), -1, None)

    def take(self, shape, live, ahead, word):
        """Keeps a row that is come to, unless it is safe or rows that are kept show no less."""
        if shape not in self.seen:
            self.seen[shape] = []
        if is_told(self.safe.get(shape, ()), live) or is_told(self.seen[shape], live):
            return
        self.seen[shape].append(live)
        self.level.append(len(self.rows))
        self.rows.append((shape, live))
        self.came.append((ahead, word))

    def miss(self, number, more):
        """The miss that a row comes to, perhaps behind one more word: a text, and a quote's first and last word."""
        words = list(more)
        behind = 0
        while self.came[number][0] >= 0:
            number, word = self.came[number]
            if word is None:
                # The words so far stand behind the quote.
                behind = len(words)
            else:
                words.append(word)
        words = list(self.words) + list(reversed(list(words)))
        return (text_of(words), len(self.words), len(words) - 1 - behind)

    def run(self):
        """A least miss for the beginning; None if it is safe."""
        miss = None
        while miss is None and len(self.level) > 0:
            miss = self.end_all()
            if miss is None:
                miss = self.read_all()
        return miss

    def end_all(self):
        """Takes what the rows of this level come to without one more word; a miss that they come to, or None."""
        index = 0
        # A row whose quote has just ended is one of this level, too.
        while index < len(self.level):
            number = self.level[index]
            shape, live = self.rows[number]
            told = answer(self.edition.ended(shape), live)
            if told is False:
                return self.miss(number, [])
            if told is not True:
                self.take(told[0], told[1], number, None)
            index += 1
        return None

    def read_all(self):
        """Goes on to the rows of the next level, with one more word; a miss that they come to, or None."""
        level = list(self.level)
        self.level = []
        for number in level:
            shape, live = self.rows[number]
            for word, move in self.edition.reads(shape):
                told = answer(move, live)
                if told is False:
                    return self.miss(number, [word])
                if told is not True:
                    self.take(told[0], told[1], number, word)
        return None


def miss_of(edition, begun, safe):
    """A least miss for a beginning; None if it is safe.

    Then its rows are added to the dict from shapes to the live places of rows that are known to be safe.
    """
    search = Search(edition, begun, safe)
    miss = search.run()
    if miss is None:
        for shape, lives in list(search.seen.items()):
            safe[shape] = fewest(safe.get(shape, []) + lives)
    return miss
