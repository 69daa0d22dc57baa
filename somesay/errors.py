"""The refusals: each stands straight under SayError, and is told in words."""


class SayError(ValueError):
    """Any refusal of this program."""

    def __init__(self, words):
        ValueError.__init__(self, words)


class Taken(SayError):
    """A saying has that label already."""


class TooMany(SayError):
    """There are as many sayings as there may be."""


class NoLabel(SayError):
    """No saying has that label."""


class BadText(SayError):
    """A text is no saying: word is the number of the first word that can't stand there."""

    def __init__(self, words, word):
        SayError.__init__(self, words)
        self.word = word


class BadRow(SayError):
    """A text of rows isn't rightly written: row is the number of the first wrong one."""

    def __init__(self, words, row):
        SayError.__init__(self, words)
        self.row = row
