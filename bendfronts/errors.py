"""The refusals of the package."""


class FrontError(ValueError):
    """Any refusal."""


class NoHeights(FrontError):
    """The drawing does not have the scale 0."""


class TooMany(FrontError):
    """There are more words, or more settings, than are told."""


class NoTable(FrontError):
    """The thing is no high, square and full table."""


class NoSetting(FrontError):
    """The thing is no setting of the drawing."""


class NoBanding(FrontError):
    """The thing is no banding of the drawing."""


class NoMove(FrontError):
    """The move can not be done."""


class NoPaper(FrontError):
    """The thing is no paper; `where` tells which part is at fault."""

    def __init__(self, where):
        FrontError.__init__(self, where)
        self.where = where


class NoText(FrontError):
    """The thing is not a text that can be read."""


class NoRow(FrontError):
    """The thing is no row that the desk knows."""


class NoName(FrontError):
    """Nothing stands by the name at the desk."""
