"""Books: texts with names, written by one chain, in which the ways of graphs are found."""

from quotehome.errors import InvalidWord, NoText, TooMany
from quotehome.phrases import hit_places, marked
from quotehome.words import ascending, is_word, text_of


class Book:
    """Texts with names, and their graphs by a chain."""

    MOST = 40

    def __init__(self, chain):
        self.chain = chain
        self.graphs = {}

    @property
    def names(self):
        """The ascending tuple of the names."""
        return tuple(sorted(self.graphs))

    def add(self, name, text):
        """Writes a text under a name, in the place of the one that has this name."""
        if not is_word(name):
            raise InvalidWord(name)
        graph = self.chain(text)
        if name not in self.graphs and len(self.graphs) >= Book.MOST:
            raise TooMany(Book.MOST)
        self.graphs[name] = graph

    def remove(self, name):
        """Removes a text."""
        if name not in self:
            raise NoText(name)
        del self.graphs[name]

    def __getitem__(self, name):
        if name not in self:
            raise NoText(name)
        return text_of(self.graphs[name].words)

    def __iter__(self):
        raise TypeError("a book is not iterated over")

    def __contains__(self, name):
        return is_word(name) and name in self.graphs

    def __len__(self):
        return len(self.graphs)

    def __eq__(self, other):
        return isinstance(other, Book) and self.chain == other.chain and self.graphs == other.graphs

    def places(self, word):
        """The dict from the names of the texts with a word to the ascending lists of its places."""
        found = {}
        for name in self.names:
            graph = self.graphs[name]
            if word in graph:
                found[name] = sorted(graph.spots[word])
        return found

    def hits(self, graph):
        """Yields the pairs of a name and a hit place of a graph's ways, ascending."""
        for name in self.names:
            for place in hit_places(graph, self.graphs[name]):
                yield name, place

    def marks(self, name, graph, place):
        """The numbers of the words of all tokens at which a way of a graph with a hit place stands."""
        if name not in self:
            raise NoText(name)
        written = self.graphs[name]
        marks = marked(graph, written, place)
        tokens = [token for token in written.tokens if (token[0], token[1]) in marks]
        return ascending([number for token in tokens for number in range(token[2], token[3] + 1)])
