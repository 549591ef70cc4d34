"""Refusals: errors that keep the very things they are made of."""


class MarginError(ValueError):
    """The one base of all refusals."""


class NoPaper(MarginError):
    """A thing is not let by: the word says why, the number at says where."""

    def __init__(self, word, at):
        self.word = word
        self.at = at


class NoChange(MarginError):
    """A CHANGE can't be made."""

    def __init__(self, word):
        self.word = word


class NoJoin(MarginError):
    """Two LEDGERS can't be joined, because of the CHANGE of this name."""

    def __init__(self, name, word):
        self.name = name
        self.word = word


class NoName(MarginError):
    """There is nothing of this name."""

    def __init__(self, name):
        self.name = name


class NoBase(MarginError):
    """A CHANGE came ahead of one of its base."""

    def __init__(self, name):
        self.name = name


class NoBranch(MarginError):
    """There is no such branch, or it can't be begun."""

    def __init__(self, word):
        self.word = word


class NoStrike(MarginError):
    """The last own CHANGE can't be struck."""

    def __init__(self, word):
        self.word = word


class NoText(MarginError):
    """A line can't be read, because of the word of this number."""

    def __init__(self, line, word):
        self.line = line
        self.word = word


class NoRow(MarginError):
    """A desk was told a row of no known form."""

    def __init__(self, row):
        self.row = row
