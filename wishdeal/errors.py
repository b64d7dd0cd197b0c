"""The refusals, one class each, all under DealError."""


class DealError(ValueError):
    """Any refusal."""

    def __init__(self, text):
        ValueError.__init__(self, text)


class NoWishes(DealError):
    """What is no wishes: part tells where, number of which thing or asker."""

    def __init__(self, part, number):
        DealError.__init__(self, f"no wishes: {part}, number {number}")
        self.part = part
        self.number = number


class NoAim(DealError):
    """What is no aim, or no order: part tells where."""

    def __init__(self, part):
        DealError.__init__(self, f"no aim: {part}")
        self.part = part


class NoText(DealError):
    """What writes nothing that is read: row tells where, from 0."""

    def __init__(self, row):
        DealError.__init__(self, f"not read: row {row}")
        self.row = row


class NoWay(DealError):
    """What is no way for a dealing."""


class NoPlace(DealError):
    """What is no number of a best dealing."""


class NoChange(DealError):
    """What is no change of wishes."""


class NoNumbering(DealError):
    """What are no numberings of the askers and the things."""


class NoJoin(DealError):
    """Wishes that can't stand beside one another, or copy by copy."""


class NoBook(DealError):
    """What is no book, or a desk that keeps none."""


class NoDeed(DealError):
    """Nothing is there to undo."""


class NoRow(DealError):
    """What is no row that a desk answers."""


class NoName(DealError):
    """A name that isn't there."""


class TooMany(DealError):
    """More best dealings than are told in one list."""
