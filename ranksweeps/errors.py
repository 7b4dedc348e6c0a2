"""The errors of the program.

The fields are kept as they are and never put into a message: an error may hold any values,
also one that cannot be shown, such as an integer with too many digits.
"""


class SweepError(ValueError):
    """The base class of all errors of the program."""


class NoRow(SweepError):
    """A value is not a row: index is that of the first wrong item, or -1 for the value itself."""

    def __init__(self, index):
        self.index = index


class NoSweep(SweepError):
    """A sweep cannot be made: part is the first argument that is wrong."""

    def __init__(self, part):
        self.part = part


class NoChain(SweepError):
    """The argument with this name is not a chain."""

    def __init__(self, name):
        self.name = name


class NoNumber(SweepError):
    """The argument with this name is not a number that is allowed there."""

    def __init__(self, name):
        self.name = name


class TooMany(SweepError):
    """A result has more than `most` states, passes or names."""

    def __init__(self, most):
        self.most = most


class TooLarge(SweepError):
    """A limit is broken: part is the first one that is."""

    def __init__(self, part):
        self.part = part


class NoRows(SweepError):
    """A value is not a set of rows: part is the wrong argument, index that of its first wrong item or -1."""

    def __init__(self, part, index):
        self.part = part
        self.index = index


class NoForm(SweepError):
    """A chain has no form, since its direction is not "all"."""


class NoRing(SweepError):
    """A chain cannot go over rings, since its direction is not "all"."""


class NoText(SweepError):
    """A text cannot be read: index is that of the first wrong word or line, or -1 for the value itself."""

    def __init__(self, index):
        self.index = index


class NoAnswer(SweepError):
    """A part of a question or of an answer is wrong: index is that of its first wrong item or -1."""

    def __init__(self, part, index):
        self.part = part
        self.index = index


class NoName(SweepError):
    """A value is no name, or nothing stands under it: name is what was handed in."""

    def __init__(self, name):
        self.name = name
