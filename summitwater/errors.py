"""The refusals of the program, each a class of its own."""


class SummitError(ValueError):
    """Any refusal."""

    def __init__(self, text):
        ValueError.__init__(self, text)


class NoText(SummitError):
    """A text writes nothing that is asked for; at is the number of the word where that shows."""

    def __init__(self, at):
        # The number stays out of the words: one of very many figures has no text in Python.
        SummitError.__init__(self, "the text writes nothing of the kind")
        self.at = at


class Falls(SummitError):
    """A row of deeds can't be done; at is the number of the first deed that is refused."""

    def __init__(self, at):
        SummitError.__init__(self, "a deed of the row is refused")
        self.at = at


class NoGate(SummitError):
    """There is no such gate."""


class Dry(SummitError):
    """There is no lockful to let down."""


class Full(SummitError):
    """There is no space for a lockful."""


class NoSpring(SummitError):
    """There is no spring."""


class NoBarge(SummitError):
    """There is no such barge."""


class NoRoom(SummitError):
    """There is no room for a barge."""


class Uneven(SummitError):
    """The water on both sides of a gate isn't even."""


class Shallow(SummitError):
    """A pound's water is too low for a barge."""


class TooMany(SummitError):
    """A limit is passed."""


class NoLine(SummitError):
    """A row that is told to the desk is none that it knows."""
