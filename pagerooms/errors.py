"""The refusals.

No message shows the refused value: Python will not write out a number of
some thousand digits, and a refusal must not fail on what it refuses. The
value is kept as the field `what`.
"""


class PageError(ValueError):
    """Any refusal."""


class NoRule(PageError):
    """A text that is no rule, or none for this use."""

    def __init__(self, what):
        PageError.__init__(self, "no such rule")
        self.what = what


class NoRoom(PageError):
    """Too little room, or too few frames."""

    def __init__(self, what):
        PageError.__init__(self, "no such room")
        self.what = what


class NoPage(PageError):
    """A page that there is not."""

    def __init__(self, what):
        PageError.__init__(self, "no such page")
        self.what = what


class NoWord(PageError):
    """A word that there is not."""

    def __init__(self, what):
        PageError.__init__(self, "no such word")
        self.what = what


class NoWindow(PageError):
    """A window below one request."""

    def __init__(self, what):
        PageError.__init__(self, "no such window")
        self.what = what


class NoTurn(PageError):
    """A turn below one request."""

    def __init__(self, what):
        PageError.__init__(self, "no such turn")
        self.what = what


class NoColour(PageError):
    """Colours that there are not, or lists of them that do not fit."""

    def __init__(self, what):
        PageError.__init__(self, "no such colour")
        self.what = what


class NoTask(PageError):
    """A task that there is not."""

    def __init__(self, what):
        PageError.__init__(self, "no such task")
        self.what = what
