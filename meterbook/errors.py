"""The refusals of the program, one class for each."""


class MeterError(ValueError):
    """Any refusal."""


class TooLate(MeterError):
    """What was known on a later day, or billed, is known already."""


class NoCounter(MeterError):
    """The sheet has no such counter."""


class NoMark(MeterError):
    """Nothing is known for that day."""


class BadValue(MeterError):
    """A value that no meter shows, or a day that no book has."""


class TooFast(MeterError):
    """A use that is more than the counter can rise in its days."""


class TooEarly(MeterError):
    """The month is not over yet."""


class BadRow(MeterError):
    """A row of a text that can not stand there."""

    def __init__(self, row):
        self.row = row
