"""The errors of the package. Each keeps its arguments under their names.

What is wrong may be any value, also a very large one, so only arguments
that are surely small are written into the messages.
"""


class InvalidProgram(ValueError):
    """A value is no program; path names the first block or statement that is wrong."""

    def __init__(self, path):
        ValueError.__init__(self, f"no program: see the path {path}")
        self.path = path


class InvalidPrices(ValueError):
    """A value is no tuple of 8 prices, or no price."""


class InvalidClaim(ValueError):
    """A value is no claim."""


class NotBreaking(ValueError):
    """The runs by the ways show the same."""


class NotAClause(ValueError):
    """A copying is no clause of the program."""

    def __init__(self, some):
        ValueError.__init__(self, f"no clause: {some}")
        self.some = some


class ParseError(ValueError):
    """A text is none that is asked for; line is the index of the line that is wrong."""

    def __init__(self, line):
        ValueError.__init__(self, f"the text is wrong at the line with the index {line}")
        self.line = line


class UnknownPath(LookupError):
    """A path names nothing that can be edited."""

    def __init__(self, path):
        LookupError.__init__(self, "the path names no statement")
        self.path = path


class UnknownLabel(LookupError):
    """A value is no label."""

    def __init__(self, label):
        LookupError.__init__(self, "no label")
        self.label = label


class UnknownCheckpoint(LookupError):
    """A session has no checkpoint with this number."""

    def __init__(self, number):
        LookupError.__init__(self, "no checkpoint has this number")
        self.number = number


class UnknownRecord(LookupError):
    """A session has no record with this number."""

    def __init__(self, number):
        LookupError.__init__(self, "no record has this number")
        self.number = number


class LimitExceeded(OverflowError):
    """There are already as many things as the limit allows."""

    def __init__(self, limit):
        OverflowError.__init__(self, f"there are {limit} already")
        self.limit = limit
