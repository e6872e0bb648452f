"""The errors that the program raises."""


class CutError(ValueError):
    """The base of all errors of the program."""


class BadRun(CutError):
    """A value is not a run, or does not fit the run that is known."""


class BadSentence(CutError):
    """A value is not a sentence for the number of processes."""


class BadText(CutError):
    """A value is not the text of a run or of a sentence."""


class TooMany(CutError):
    """There are more cuts than the caller allows."""
