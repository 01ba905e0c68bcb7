"""The errors of the program."""


class MootError(ValueError):
    """Every error of the program."""


class TextError(MootError):
    """Something that is read is wrong at some place."""


class LimitError(MootError):
    """Something would become greater than it may be."""


class BadBook(MootError):
    """A part of a book is wrong."""

    def __init__(self, part):
        self.part = part


class BadWord(MootError):
    """A word of a talk is none, or cannot be heard now."""

    def __init__(self, word):
        self.word = word


class Fallen(MootError):
    """A site has fallen in the middle of its writes, or behind them."""


class BadText(TextError):
    """A row of a text of a notice is wrong."""

    def __init__(self, at):
        self.at = at


class BadPattern(TextError):
    """A character of a pattern is wrong."""

    def __init__(self, at):
        self.at = at


class BadRule(TextError):
    """A token of a row of a policy is wrong."""

    def __init__(self, row, at):
        self.row = row
        self.at = at


class BadValue(TextError):
    """A character of the text of a value is wrong."""

    def __init__(self, at):
        self.at = at


class BadMarks(TextError):
    """A character of the text of marks is wrong."""

    def __init__(self, at):
        self.at = at


class TooLarge(LimitError):
    """The told thing would be larger than it may be."""

    def __init__(self, part):
        self.part = part


class TooMany(LimitError):
    """There would be more of the told things than there may be."""

    def __init__(self, part):
        self.part = part
