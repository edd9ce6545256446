"""The refusals of the program: each keeps its fields as they were handed in, and looks at none."""


class PlanError(ValueError):
    """Any refusal, made of a text."""


class NoPaper(PlanError):
    """A paper that isn't let by: the word for what is wrong, and the number of the place."""

    def __init__(self, word, at):
        self.word = word
        self.at = at


class TooMany(PlanError):
    """More than can be held or gone through: the word for what there is too much of."""

    def __init__(self, word):
        self.word = word


class NoRing(PlanError):
    """No ring on which vehicles could go around: the word for why."""

    def __init__(self, word):
        self.word = word


class NoText(PlanError):
    """Lines that can't be read: the row, and in it the word, that can't stand."""

    def __init__(self, row, word):
        self.row = row
        self.word = word


class NoRow(PlanError):
    """A row that a desk can't be asked: the row itself."""

    def __init__(self, row):
        self.row = row
