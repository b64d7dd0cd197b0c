"""A keeper of wishes, which keeps a dealing of them best through changes."""

from wishdeal.best import best_dealing, bettered
from wishdeal.dealings import counts_of
from wishdeal.errors import NoDeed
from wishdeal.mends import mended
from wishdeal.wishes import copied_wishes


class Keeper:
    """Wishes and a dealing of them that is best by an order, with what they were ahead of each change."""

    def __init__(self, wishes, order):
        dealing, paper = best_dealing(wishes, (order, None, []))
        self.order = order
        self.asked = copied_wishes(wishes)
        self.dealt = dealing
        self.past = []

    def change(self, change):
        """Do a change; the askers that are moved by it, or NoChange, of anything as change."""
        asked, dealt, moved, paper = mended(self.asked, change, self.order, self.dealt)
        self.past.append((self.asked, self.dealt))
        self.asked = asked
        self.dealt = dealt
        return moved

    def undo(self):
        """Undo the last change that is not undone, or NoDeed."""
        if len(self.past) == 0:
            raise NoDeed("nothing to undo")
        asked, dealt = self.past.pop()
        self.asked = asked
        self.dealt = dealt

    def wishes(self):
        """The wishes as they are now."""
        return copied_wishes(self.asked)

    def dealing(self):
        """The dealing as it is now."""
        return list(self.dealt)

    def counts(self):
        """The counts of the dealing."""
        return counts_of(self.asked, self.dealt)

    def paper(self):
        """A paper by the order alone, with times 1, that claims just what the dealing is worth."""
        word, paper = bettered(self.asked, (self.order, None, []), self.dealt)
        return paper
