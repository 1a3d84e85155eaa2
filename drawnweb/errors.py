"""The refusals: each one stands straight under WebError."""


class WebError(ValueError):
    """What is handed in is refused."""


class NoDeed(WebError):
    """A thing of a row, the one of this number from 0, is no deed of the web ahead of it."""

    def __init__(self, number):
        self.number = number


class OfKind(WebError):
    """The web is of the kind."""


class NoWall(WebError):
    """This is no wall of the web, or the told web doesn't hold on without as many places."""


class NoBack(WebError):
    """There is no deed to undo."""


class NoText(WebError):
    """Nothing is written so."""


class NoLine(WebError):
    """The desk has no such line."""


class Lacks(WebError):
    """The desk has no web, or no told web, yet."""
