"""The refusals of the program: one class for each, all of them under StepError.

No message writes out a number that was handed in: they may have any number of figures.
"""


class StepError(ValueError):
    """Any refusal."""

    def __init__(self, why="refused"):
        ValueError.__init__(self, why)


class NoCount(StepError):
    """More squares than a kind may have steps."""


class NoSum(StepError):
    """No sum of the kind."""


class NoGrade(StepError):
    """No sum of one grade."""


class NoProduct(StepError):
    """No product of as many steps as are needed."""


class NoEven(StepError):
    """No even sum."""


class NoHalves(StepError):
    """No kind with halves, or no number of a half."""


class NoBoards(StepError):
    """No steps' boards, or no board of their size."""


class NoCross(StepError):
    """No step, or no four steps, by which a kind can be crossed."""


class NoKind(StepError):
    """A desk without a kind."""


class NoWord(StepError):
    """No name that a sum can have."""


class NoUndo(StepError):
    """Nothing to take back."""


class NoLine(StepError):
    """No line of a desk."""


class NoSquare(StepError):
    """A number that is no square of a step; place is where it stands."""

    def __init__(self, place):
        StepError.__init__(self, "no square of a step")
        self.place = place


class NoFull(StepError):
    """A kind with a square that is nought; place is the first such step."""

    def __init__(self, place):
        StepError.__init__(self, "a kind with a square that is nought, or without steps")
        self.place = place


class NoVector(StepError):
    """A sum that is no vector; place is where it stands."""

    def __init__(self, place):
        StepError.__init__(self, "no vector")
        self.place = place


class NoMirror(StepError):
    """A vector whose measure is nought; place is where it stands."""

    def __init__(self, place):
        StepError.__init__(self, "a vector whose measure is nought")
        self.place = place


class NoStep(StepError):
    """A number that is no step of the kind; step is this number."""

    def __init__(self, step):
        StepError.__init__(self, "no step of the kind")
        self.step = step


class NoPartner(StepError):
    """A sum without a partner; other is a sum with which it makes nought."""

    def __init__(self, other):
        StepError.__init__(self, "a sum without a partner")
        self.other = other


class NoTable(StepError):
    """No table of the kind; row is where it fails."""

    def __init__(self, row):
        StepError.__init__(self, "no table of the kind")
        self.row = row


class NoKeep(StepError):
    """A table that does not keep the measure; steps are the first two that show it."""

    def __init__(self, steps):
        StepError.__init__(self, "a table that does not keep the measure")
        self.steps = steps


class BadStep(StepError):
    """A step of a paper that does not fit; at is its number."""

    def __init__(self, at):
        StepError.__init__(self, "a step of a paper that does not fit")
        self.at = at


class NoText(StepError):
    """A text that cannot be read; at is where it fails."""

    def __init__(self, at):
        StepError.__init__(self, "a text that cannot be read")
        self.at = at


class NoName(StepError):
    """A name by which no sum stands; name is this name."""

    def __init__(self, name):
        StepError.__init__(self, "a name by which no sum stands")
        self.name = name
