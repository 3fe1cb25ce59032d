"""The refusals: one class for each kind, all straight under RankError."""


class RankError(ValueError):
    """Any refusal."""


class NoPush(RankError):
    """A place can't be pushed so."""


class NoChange(RankError):
    """A thing is no change of the web, or no leaps for it."""


class NoPart(RankError):
    """A thing is no least closed part of the web."""


class NoPrime(RankError):
    """A thing is no prime, or no list of primes."""


class NoLuck(RankError):
    """A prime divides what it may not divide."""


class TooFew(RankError):
    """The primes together are too small."""


class NoOrder(RankError):
    """A thing is no order of as many places."""


class NoBack(RankError):
    """There is no deed to take back."""


class NoText(RankError):
    """A thing is no text of what is read; line is the first line that can't stand there."""

    def __init__(self, line=0):
        self.line = line


class NoRow(RankError):
    """A thing is none of the rows of words that a desk knows."""


class NoName(RankError):
    """A word is the name of no place."""


class NoNumber(RankError):
    """A thing is no number that may stand there."""
