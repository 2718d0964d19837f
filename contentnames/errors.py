"""The refusals: each has the field `what`, which tells what is refused.

None has a base of its own beside it: each stands straight under one of Python's errors.
"""


class BadText(ValueError):
    """The text is not the text of anything that it is read as."""

    def __init__(self, what):
        self.what = what


class BadRow(ValueError):
    """The row is not written as rows are."""

    def __init__(self, what):
        self.what = what


class BadContent(ValueError):
    """The thing is not a right content."""

    def __init__(self, what):
        self.what = what


class BadName(ValueError):
    """The text is not a name."""

    def __init__(self, what):
        self.what = what


class Unfit(ValueError):
    """The body at this place has a ring call that does not fit."""

    def __init__(self, what):
        self.what = what


class BadCall(TypeError):
    """More or fewer parts or numbers are handed in than there are arguments."""

    def __init__(self, what):
        self.what = what


class NoMark(KeyError):
    """No content has this mark."""

    def __init__(self, what):
        self.what = what


class NoName(KeyError):
    """The name leads nowhere."""

    def __init__(self, what):
        self.what = what


class Nameless(KeyError):
    """No name leads to this mark."""

    def __init__(self, what):
        self.what = what


class Taken(LookupError):
    """The mark is another content's already."""

    def __init__(self, what):
        self.what = what


class Known(LookupError):
    """The name leads somewhere already."""

    def __init__(self, what):
        self.what = what


class Twice(LookupError):
    """Two rows have this name."""

    def __init__(self, what):
        self.what = what


class Clash(RuntimeError):
    """Both branches led these names, to unlike marks."""

    def __init__(self, what):
        self.what = what


class Torn(RuntimeError):
    """Two rows would stand in the place of this mark."""

    def __init__(self, what):
        self.what = what


class Busy(RuntimeError):
    """So many runs are under way already."""

    def __init__(self, what):
        self.what = what


class TooLong(OverflowError):
    """It would be more than this many."""

    def __init__(self, what):
        self.what = what
