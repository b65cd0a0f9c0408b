"""The errors of the package."""


class GlueError(ValueError):
    """What all errors about the form of an argument derive from."""


class InvalidRow(GlueError):
    """A value is no row, or none of the length that is asked for."""


class InvalidGrid(GlueError):
    """A value is no grid."""


class InvalidCell(GlueError):
    """A value is no cell, or none of the cells that are asked for."""


class InvalidSpace(GlueError):
    """A value is no space."""


class InvalidMap(GlueError):
    """A value is no lead, or no map."""


class InvalidTable(GlueError):
    """A value is no table."""


class InvalidTelling(GlueError):
    """A value is no telling."""


class InvalidRows(GlueError):
    """A value is no bare rows."""


class InvalidClaim(GlueError):
    """A value is no well made claim."""


class InvalidOperation(GlueError):
    """Arguments that are right one by one do not go together."""


class ParseError(GlueError):
    """A text is wrong; `at` tells the place."""

    def __init__(self, at):
        self.at = at


class InvalidNumber(IndexError):
    """An integer is out of its bounds, or no integer; `given` is the value."""

    def __init__(self, given):
        self.given = given


class UnknownName(KeyError):
    """A name is not known; `wanted` is the name."""

    def __init__(self, wanted):
        self.wanted = wanted


class TooMany(OverflowError):
    """A limit would be passed; `most` is the limit."""

    def __init__(self, most):
        self.most = most


class Refused(ArithmeticError):
    """Something can't be done; `reason` is a tuple that begins with a word."""

    def __init__(self, reason):
        self.reason = reason
