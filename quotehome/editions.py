"""Editions: a writer and an asker together."""

from quotehome.begun import beginnings
from quotehome.blocks import blocks_of
from quotehome.kinds import kind_of, kinds, side_words


class Edition:
    """A writer and an asker, with what their rows need. It never changes."""

    def __init__(self, writer, asker):
        self.writer = writer
        self.asker = asker
        self.words = kinds(writer, asker)
        self.sided = side_words(writer, asker)
        self.begun_by_writer = {begun: True for begun in beginnings(writer)}
        self.begun_by_asker = {begun: True for begun in beginnings(asker)}
        self.of_kind = {}
        self.of_sort = {}
        for word in self.words:
            kind = self.kind(word)
            self.of_kind[kind] = word
            self.of_sort.setdefault(kind[0], word)

    def kind(self, word):
        """What the words of a kind have in common; first what their results by the writer have."""
        return kind_of(self.writer, self.asker, self.sided, word)

    def standing(self, words, first, stop):
        """The tuple of the words that stand for words; those from first on, ahead of stop, are the quote's."""
        known = [self.kind(word) for word in words]
        return tuple([
            self.of_kind[kind] if first <= index < stop else self.of_sort[kind[0]] for index, kind in enumerate(known)])

    def written(self, words, is_over):
        """The blocks of the writer that are decided behind words, all of them if the text is over."""
        waiting = () if is_over else self.begun_by_writer
        return blocks_of(self.writer.entries(words), self.writer.rules, self.writer.keep, waiting)

    def asked(self, words, is_over):
        """The blocks of the asker that are decided behind words of a quote, all of them if the quote is over."""
        waiting = () if is_over else self.begun_by_asker
        return blocks_of(self.asker.entries(words), self.asker.rules, self.asker.keep, waiting)
