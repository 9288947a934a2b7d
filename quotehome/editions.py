"""Editions: a writer and an asker together, and how rows go on."""

from quotehome.homes import footings_at, spans_of
from quotehome.kinds import first_of_kinds, kind_of, side_words
from quotehome.parts import part_at
from quotehome.walks import onward


class Edition:
    """A writer and an asker, with what their rows need.

    A row is told here by its shape (words, out, start, end) and by its live places.
    """

    def __init__(self, writer, asker):
        self.writing = writer
        self.asking = asker
        self.sided = side_words(writer, asker)
        self.is_plain = writer.turning.is_plain and asker.turning.is_plain
        self.of_kind = {}
        self.of_sort = {}
        self.known = {}
        self.moves = {}
        self.ends = {}

    def learn(self):
        """Looks for the words that stand for the kinds, and for the sorts of results by the writer, once."""
        if len(self.of_kind) == 0:
            self.of_kind = first_of_kinds(self.writing, self.asking)
            for kind, word in self.of_kind.items():
                self.of_sort.setdefault(kind[0], word)

    def stands(self, word, is_asked):
        """The word that stands for a word, which is one of the quote's or not."""
        if self.is_plain and word in self.sided:
            return word
        key = (word, is_asked)
        if key not in self.known:
            self.learn()
            kind = kind_of(self.writing, self.asking, self.sided, word)
            self.known[key] = self.of_kind[kind] if is_asked else self.of_sort[kind[0]]
        return self.known[key]

    def words_for(self, begun):
        """The tuple of the words that stand for those with these results by the writer."""
        if self.is_plain or len(begun) == 0:
            return begun
        self.learn()
        return tuple([self.of_sort[entry] for entry in begun])

    def standing(self, words, first, stop):
        """The tuple of the words that stand for words; those from first on, ahead of stop, are the quote's."""
        return tuple([self.stands(word, first <= index < stop) for index, word in enumerate(words)])

    def settled(self, shape, spans):
        """The number of the word behind the settled blocks of the asker, and the list of their footings.

        The words of decided blocks of the writer are told by their spans.
        """
        words, out, start, end = shape
        asker = self.asking
        stop = len(words) if end == -1 else end
        results = asker.entries(words)
        rows = []
        at = start
        while at < stop and not (end == -1 and results[at:] in asker.begins):
            part = part_at(asker.meetings, results, at, stop)
            if at + part[0] > len(spans):
                break
            rows.append(footings_at(part, at, spans, (out, stop - 1)))
            at = at + part[0]
        return (at, rows)

    def move(self, shape, is_over=False):
        """How the row goes on that words read and a quote come to: the next shape, footings, and a place.

        The shape told is like that of a row, but blocks may be decided that are not settled yet, all of them if the
        text is over. The next shape is None if the quote has been read; its places are counted from the place.
        """
        words, out, start, end = shape
        writer = self.writing
        spans, place = spans_of(writer.meetings, writer.entries(words), {} if is_over else writer.begins)
        at, rows = self.settled(shape, spans)
        if at == end:
            return (None, rows, 0)
        base = len(spans)
        if at < base:
            base, _, place, _, _ = spans[at]
        standing = self.standing(words[base:], out - base, (len(words) if end == -1 else end) - base)
        return ((standing, max(0, out - base), at - base, -1 if end == -1 else end - base), rows, place)

    def reads(self, shape):
        """The list of the pairs of a word and the move of rows of a shape behind it; words that are alike come once."""
        if shape not in self.moves:
            words, out, start, end = shape
            self.learn()
            # Behind the quote the words of one sort are alike.
            known = self.of_kind if end == -1 else self.of_sort
            self.moves[shape] = [
                (word, self.move((words + (word,), out, start, end))) for word in list(known.values())]
        return self.moves[shape]

    def ended(self, shape):
        """The move of rows of a shape behind the quote's end, or at the text's end if the quote has ended."""
        if shape not in self.ends:
            words, out, start, end = shape
            self.ends[shape] = self.move((words, out, start, len(words) if end == -1 else end), end != -1)
        return self.ends[shape]


def answer(move, live):
    """The row that a move comes to from live places, as a pair (shape, live); True or False if that is the answer."""
    shape, rows, place = move
    places = {where: True for where in live} if len(live) > 0 else None
    for footings in rows:
        places = onward(places, footings)
    if places is not None and len(places) == 0:
        return False
    if shape is None:
        return True
    return (shape, () if places is None else tuple(sorted([where - place for where in places])))


def row_told(told):
    """A pair (shape, live) as a row; True or False as they are."""
    return told[0] + (told[1],) if isinstance(told, tuple) else told
