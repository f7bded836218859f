"""The errors of the package."""


class BagError(ValueError):
    """The error that all errors of the package are."""


class BadFormula(BagError):
    """A value is no formula of the language."""


class BadForm(BagError):
    """A value is no form of the language."""


class BadStore(BagError):
    """A value is no store of the language."""


class TooMany(BagError):
    """A call would go beyond a bound of the document."""


class BadText(BagError):
    """A text is the text of no formula."""


class UnknownNumber(BagError):
    """A change names what does not exist."""


class BadLanguage(BagError):
    """A value is no language; at is the number of the first wrong relation, or -1."""

    def __init__(self, at):
        self.at = at


class BadBook(BagError):
    """A value is no book; part is the word for what is wrong in it."""

    def __init__(self, part):
        self.part = part


class NotPlain(BagError):
    """A book is not plain; number tells the first form or fact that is not."""

    def __init__(self, number):
        self.number = number


class BadLine(BagError):
    """A text has a wrong line; line is its number, counted from 1."""

    def __init__(self, line):
        self.line = line
