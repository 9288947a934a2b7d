"""Shelves: texts with names that the writers of several editions have written."""

from quotehome.chains import Chain
from quotehome.errors import InvalidWord, Missed, NoText, TooMany
from quotehome.home import missed
from quotehome.judging import first_miss
from quotehome.phrases import hit_places
from quotehome.words import ascending, is_word, text_of


def check_edition(writer, asker):
    """Raises Missed unless a writer and an asker follow, and what judge raises."""
    miss = first_miss(writer, asker)
    if miss is not None:
        text, first, last = miss
        raise Missed(text, first, last)


def is_missed(writer, asker, text):
    """Whether some quote of a text is missed."""
    for _ in missed(writer, asker, text):
        return True
    return False


def found_pairs(shelf, quote):
    """Yields the pairs of a name and a hit place of the ways of a text, as a shelf's asker asks for it, ascending."""
    _, asker, texts = shelf.state
    asked = asker(quote)
    for name in sorted(texts):
        for place in hit_places(asked, texts[name].graph):
            yield name, place


class Written:
    """A text as a writer has written it, and whether it is stale. It never changes."""

    def __init__(self, writer, graph, is_stale):
        self.chain = writer
        self.graph = graph
        self.is_stale = is_stale

    def __eq__(self, other):
        return isinstance(other, Written) and self.chain == other.chain and self.graph == other.graph

    def plain_text(self):
        """The text."""
        return text_of(self.graph.words)

    def for_edition(self, writer, asker):
        """The same in another edition, which follows."""
        # What the writer of an edition writes is not stale in it.
        is_stale = self.chain != writer and is_missed(self.chain, asker, self.plain_text())
        return Written(self.chain, self.graph, is_stale)


class Trial:
    """A block in which a shelf may be changed; behind it the shelf is as it was ahead of it."""

    def __init__(self, shelf):
        self.shelf = shelf
        self.kept = shelf.state

    def __enter__(self):
        self.kept = self.shelf.state
        return self.shelf

    def __exit__(self, kind, value, trace):
        shelf = self.shelf
        shelf.state = self.kept
        return False


class Shelf:
    """Texts with names, an edition, and for each text the writer that has written it."""

    MOST = 40

    def __init__(self, writer, asker):
        check_edition(writer, asker)
        # The edition, and the texts by their names. Another dict is put there for each change, so that this can be
        # kept as it is.
        self.state = (writer, asker, {})

    @property
    def writer(self):
        """The writer of the present edition."""
        return self.state[0]

    @property
    def asker(self):
        """The asker of the present edition."""
        return self.state[1]

    @asker.setter
    def asker(self, value):
        self.ask_by(value)

    @property
    def names(self):
        """The ascending tuple of the names."""
        return tuple(sorted(self.state[2]))

    @property
    def stale(self):
        """The ascending tuple of the names of the stale texts."""
        texts = self.state[2]
        return tuple([name for name in sorted(texts) if texts[name].is_stale])

    def ask_by(self, asker):
        """Another asker; the writer stays."""
        self.renew(self.writer, asker)

    def renew(self, writer, asker):
        """Another edition; the texts stay as they are written."""
        check_edition(writer, asker)
        texts = self.state[2]
        self.state = (writer, asker, {name: texts[name].for_edition(writer, asker) for name in texts})

    def put(self, texts):
        """Other texts in the same edition."""
        writer, asker, _ = self.state
        self.state = (writer, asker, texts)

    def add(self, name, text):
        """Writes a text under a name, in the place of the one that has this name."""
        if not is_word(name):
            raise InvalidWord(name)
        writer, _, texts = self.state
        graph = writer(text)
        if name not in texts and len(texts) >= Shelf.MOST:
            raise TooMany(Shelf.MOST)
        self.put({**texts, name: Written(writer, graph, False)})

    def written(self, name):
        """The text with a name as it is written; raises NoText for any value that is none."""
        if name not in self:
            raise NoText(name)
        return self.state[2][name]

    def remove(self, name):
        """Removes a text."""
        self.written(name)
        texts = self.state[2]
        self.put({other: texts[other] for other in texts if other != name})

    def written_by(self, name):
        """The writer by which a text is written."""
        return self.written(name).chain

    def rewrite(self, *names):
        """Writes texts anew by the present writer, without names the stale ones; the ascending tuple of their names."""
        for name in names:
            self.written(name)
        chosen = ascending(names) if len(names) > 0 else self.stale
        writer, _, texts = self.state
        anew = {name: Written(writer, writer(texts[name].plain_text()), False) for name in chosen}
        self.put({**texts, **anew})
        return chosen

    def find(self, quote):
        """Yields the pairs of a name and a hit place of the ways of a text, as the asker asks for it, ascending."""
        yield from found_pairs(self, quote)

    def trial(self):
        """An object for one with statement, behind which the shelf is as it was."""
        return Trial(self)

    def tried(self, deed):
        """What a function returns that is called with the shelf inside of a trial."""
        with self.trial() as same:
            return deed(same)

    def twin(self):
        """Another shelf with the same edition and texts."""
        # The edition follows; it need not be judged again.
        other = Shelf(Chain(), Chain())
        other.state = self.state
        return other

    def __getitem__(self, name):
        return self.written(name).plain_text()

    def __iter__(self):
        raise TypeError("a shelf is not iterated over")

    def __contains__(self, name):
        return is_word(name) and name in self.state[2]

    def __len__(self):
        return len(self.state[2])

    def __eq__(self, other):
        return isinstance(other, Shelf) and self.state == other.state
