"""All refusals: each a class of its own straight under YesNoError."""


class YesNoError(ValueError):
    """What all refusals stand under."""


class NotIn(YesNoError):
    """A word isn't of the kind that it is asked by."""


class NoMost(YesNoError):
    """Of a term as many votes are yes as no."""

    def __init__(self, term):
        self.term = term


class TooFar(YesNoError):
    """No word of the kind is near enough."""


class NoFit(YesNoError):
    """No word of the kind says what was heard."""


class TooMany(YesNoError):
    """There are more states than are gone through."""


class NoText(YesNoError):
    """A text isn't written as it is to be."""


class NoLine(YesNoError):
    """A line isn't one that the desk knows."""
