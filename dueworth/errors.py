"""The refusals, one class each."""


class DueError(ValueError):
    """Any refusal."""


class BadText(DueError):
    """A text that is none of the form asked for, by the number of its first row that can't be one."""

    def __init__(self, row):
        self.row = row


class NoHouse(DueError):
    """A house that is not let by: a word for what is wrong, and the name it is wrong with."""

    def __init__(self, word, name):
        self.word = word
        self.name = name


class Stuck(DueError):
    """A take of more than the jar holds, by the number of its row or of its doing."""

    def __init__(self, row):
        self.row = row


class TooLong(DueError):
    """More rows or doings than the most that was asked for."""

    def __init__(self, most):
        self.most = most


class NoStory(DueError):
    """There is no story of what was asked for."""


class TooMany(DueError):
    """A house of more lines than are reckoned with."""


class NoRow(DueError):
    """A row that the desk can't be asked with."""
