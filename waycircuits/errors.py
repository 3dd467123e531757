"""The refusals of all stages ([9]): each keeps just its fields, the very things, and looks at none.

No base is told the fields once more: Python keeps them as the error's arguments by itself,
so that an error that is copied is made of the same fields again.
"""


class FormError(ValueError):
    """The base of refusals of what is handed in as it is; never raised itself."""


class LackError(LookupError):
    """The base of refusals of what isn't there; never raised itself."""


class NoPaper(FormError):
    """A checker doesn't let a thing by: what is wrong, and at which place."""

    def __init__(self, word, at):
        self.word = word
        self.at = at


class NoModel(FormError):
    """There is no MODEL."""

    def __init__(self, form):
        self.form = form


class NoMore(FormError):
    """More rows would be laid than these."""

    def __init__(self, rows):
        self.rows = rows


class NoParting(FormError):
    """A ROW MEETS two nodes of this one."""

    def __init__(self, node, row):
        self.node = node
        self.row = row


class NoPage(FormError):
    """A session can't take this."""

    def __init__(self, word):
        self.word = word


class NoText(FormError):
    """A line, by its row, can't be read from this word on."""

    def __init__(self, row, word):
        self.row = row
        self.word = word


class NoRow(FormError):
    """A desk has no such row."""

    def __init__(self, row):
        self.row = row


class NoName(LackError):
    """A name isn't there."""

    def __init__(self, name):
        self.name = name


class NoNumber(LackError):
    """Nothing has this number."""

    def __init__(self, number):
        self.number = number


class NoStep(LackError):
    """There is no such step."""

    def __init__(self, number):
        self.number = number
