"""The errors of the package; each keeps its argument."""


class RowError(Exception):
    """The base class of all errors of the package."""


class BadValue(RowError):
    """The argument at this place, from 1 on, is not as told."""

    def __init__(self, at):
        self.at = at


class BadTask(RowError):
    """The task of this number is wrong."""

    def __init__(self, at):
        self.at = at


class BadPair(RowError):
    """The pair of the order of this number is wrong."""

    def __init__(self, at):
        self.at = at


class BadModel(RowError):
    """The model of this number is wrong."""

    def __init__(self, at):
        self.at = at


class BadState(RowError):
    """The state of this number is wrong."""

    def __init__(self, at):
        self.at = at


class TooMany(RowError):
    """There are more of what the word names than are allowed."""

    def __init__(self, word):
        self.word = word


class BadSyntax(RowError):
    """The line of a text of this number does not fit."""

    def __init__(self, at):
        self.at = at


class BadLine(RowError):
    """The line of a log of this number does not fit."""

    def __init__(self, at):
        self.at = at
