"""Tables: tuples of rows that are handed in to show that a beginning is safe."""

from quotehome.editions import answer
from quotehome.words import is_word


def is_integer(value):
    """Whether any value is an integer."""
    return isinstance(value, int) and not isinstance(value, bool)


def is_row(value):
    """Whether any value has the form of a row."""
    if not isinstance(value, tuple) or len(value) != 5:
        return False
    words, out, start, end, live = value
    if not isinstance(words, tuple) or not isinstance(live, tuple):
        return False
    if not all([is_word(word) for word in words]) or not all([is_integer(place) for place in live]):
        return False
    if not all([live[index] < live[index + 1] for index in range(len(live) - 1)]):
        return False
    return is_integer(out) and is_integer(start) and is_integer(end)


class Lives:
    """The live places of tuples of one shape, as a tree: the places of each stand one below the other.

    Those of very many tuples may be some of the live places of one row. So each one is met once, and then passed over.
    """

    def __init__(self):
        # For each node the numbers of the nodes below it, by their places; whether the live places of a tuple that has
        # been met, or of one that has not, end at it (None: of none); and how many not met end there or further below.
        self.below = [{}]
        self.is_met = [None]
        self.waiting = [0]

    def path(self, live):
        """The list of the numbers of the nodes from the top to the one at which live places end."""
        nodes = [0]
        for place in live:
            below = self.below[nodes[-1]]
            if place not in below:
                below[place] = len(self.below)
                self.below.append({})
                self.is_met.append(None)
                self.waiting.append(0)
            nodes.append(below[place])
        return nodes

    def mark(self, live, is_met):
        """Notes that the live places of a tuple wait to be met, or have been met."""
        nodes = self.path(live)
        if self.is_met[nodes[-1]] is None or is_met:
            self.is_met[nodes[-1]] = is_met
            for node in nodes:
                self.waiting[node] += -1 if is_met else 1

    def has_within(self, live):
        """Whether those of some tuple are some of these live places."""
        if len(live) == 0:
            return self.is_met[0] is not None
        left = [(0, 0)]
        while len(left) > 0:
            index, node = left.pop()
            if index > 0 and self.is_met[node] is not None:
                return True
            below = self.below[node]
            left.extend([(at + 1, below[live[at]]) for at in range(index, len(live)) if live[at] in below])
        return False

    def meet_within(self, live):
        """The list of those that are some of these live places and have not been met; now they have."""
        found = [()] if len(live) == 0 and self.is_met[0] is False else []
        left = [((), 0, 0)]
        while len(left) > 0:
            places, index, node = left.pop()
            if index > 0 and self.is_met[node] is False:
                found.append(places)
            below = self.below[node]
            for at in range(index, len(live)):
                if live[at] in below and self.waiting[below[live[at]]] > 0:
                    left.append((places + (live[at],), at + 1, below[live[at]]))
        for places in found:
            self.mark(places, True)
        return found


class Table:
    """What a tuple of any values tells of rows, by their shapes."""

    def __init__(self, edition, rows):
        self.edition = edition
        self.lives = {}
        for row in rows:
            if is_row(row):
                self.put(row)

    def put(self, row):
        """Takes a tuple that has the form of a row."""
        words, out, start, end, live = row
        standing = self.edition.standing(words, out, len(words) if end == -1 else end)
        shape = (standing, out, start, end)
        if shape not in self.lives:
            self.lives[shape] = Lives()
        self.lives[shape].mark(live, False)

    def answers(self, shape, live):
        """The list of what is told behind each word, and behind the end."""
        moves = [move for _, move in self.edition.reads(shape)] + [self.edition.ended(shape)]
        return [answer(move, live) for move in moves]

    def shows(self, shape, live):
        """Whether a row is covered, and then each answer of each tuple that is met."""
        left = [(shape, live)]
        seen = {(shape, live): True}
        while len(left) > 0:
            shape, live = left.pop()
            if shape not in self.lives:
                return False
            lives = self.lives[shape]
            met = lives.meet_within(live)
            if len(met) == 0 and not lives.has_within(live):
                return False
            for told in [told for places in met for told in self.answers(shape, places) if told is not True]:
                if told is False:
                    return False
                if told not in seen:
                    seen[told] = True
                    left.append(told)
        return True
