"""The refusals: one class for each kind, all under SumError."""


class SumError(ValueError):
    """Any refusal of this program."""


class NoPlace(SumError):
    """What was handed in is no place of what was asked."""


class NoSide(SumError):
    """A side is neither 0 nor 1."""


class NoNumber(SumError):
    """What was handed in is no number that can be put or taken there."""


class NoText(SumError):
    """A text is not that of a row."""


class NoCommand(SumError):
    """What was said is no command of the desk."""
