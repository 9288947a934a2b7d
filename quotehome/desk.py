"""A desk: two chains in the making and a shelf, worked at by lines."""

from quotehome.chains import Chain
from quotehome.commands import CHANGES, carry_out, parts_of
from quotehome.errors import NothingToUndo, UnknownCommand
from quotehome.words import is_number


class Desk:
    """Two chains, a shelf once it is opened, and what they were ahead of each line that can be taken back."""

    def __init__(self):
        self.chains = (Chain(), Chain())
        self.shelf = None
        self.past = []

    @property
    def writer(self):
        """The writer in the making."""
        return self.chains[0]

    @property
    def asker(self):
        """The asker in the making."""
        return self.chains[1]

    def say(self, line):
        """Carries out a line; what it answers."""
        parts = parts_of(line, self.shelf is not None)
        if parts is None:
            raise UnknownCommand(line)
        kept = (self.chains, self.shelf, None if self.shelf is None else self.shelf.state)
        answer = carry_out(self, parts)
        if parts[0] in CHANGES:
            self.past.append(kept)
        return answer

    def undo(self, count=1):
        """Takes back the last lines that changed something and were not taken back, so many of them."""
        if not is_number(count, len(self.past) + 1) or count == 0:
            raise NothingToUndo(count)
        self.chains, self.shelf, state = self.past[-count]
        if self.shelf is not None:
            self.shelf.state = state
        del self.past[-count:]
