"""The refusals: each keeps the very things it was made of, and looks at none of them."""


class RivalError(ValueError):
    """Any refusal."""


class NoPaper(RivalError):
    """A thing is no paper of the kind that was asked for."""

    def __init__(self, word, number):
        RivalError.__init__(self, "this is no such paper")
        self.word = word
        self.number = number


class NoText(RivalError):
    """Lines write no family."""

    def __init__(self, row, word):
        RivalError.__init__(self, "these lines write no family")
        self.row = row
        self.word = word


class NoSteps(RivalError):
    """A thing is no steps for a deed, or no deed."""

    def __init__(self, word, number):
        RivalError.__init__(self, "these are no such steps")
        self.word = word
        self.number = number


class TooMany(RivalError):
    """There would be too many of what the word names."""

    def __init__(self, word):
        RivalError.__init__(self, "these would be too many")
        self.word = word


class NoRow(RivalError):
    """A row that a desk does not know."""

    def __init__(self, line):
        RivalError.__init__(self, "this is no row")
        self.line = line
