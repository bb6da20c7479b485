"""The errors of the program."""


class TurnError(ValueError):
    """What all errors of the program derive from; it is never raised itself."""


class BadName(TurnError):
    """A name given to a new thing is not a name."""

    def __init__(self, name):
        self.name = name


class BadNumber(TurnError):
    """A number is not an integer or is out of its range."""

    def __init__(self, number):
        self.number = number


class BadSize(TurnError):
    """There are too few or too many of something."""

    def __init__(self, what, size):
        self.what = what
        self.size = size


class Repeated(TurnError):
    """Something is given twice."""

    def __init__(self, name):
        self.name = name


class Unknown(TurnError):
    """There is no such thing in the web or world."""

    def __init__(self, what, name):
        self.what = what
        self.name = name


class BadEnd(TurnError):
    """The place is not an end of the way, or both ends of a way are this place."""

    def __init__(self, way, place):
        self.way = way
        self.place = place


class NoWalker(TurnError):
    """No such walker stands at the place."""

    def __init__(self, place):
        self.place = place


class Occupied(TurnError):
    """A walker stands at a border place."""

    def __init__(self, place):
        self.place = place


class Unlike(TurnError):
    """Two values do not belong together."""

    def __init__(self, what):
        self.what = what


class Named(TurnError):
    """A world has named walkers where only worlds without are taken."""

    def __init__(self, names):
        self.names = names


class TooLarge(TurnError):
    """A search would be too large."""

    def __init__(self, what, size):
        self.what = what
        self.size = size


class NoDeed(TurnError):
    """A deed is refused."""

    def __init__(self, index, way, cause):
        self.index = index
        self.way = way
        self.cause = cause


class BadText(TurnError):
    """A text is not in canonical form."""

    def __init__(self, at):
        self.at = at


class NoRun(TurnError):
    """An errand is refused."""

    def __init__(self, at, cause):
        self.at = at
        self.cause = cause


class NothingLeft(TurnError):
    """There is no row to take back."""


class BadClaim(TurnError):
    """A claim's paper is wrong."""


class BadRow(TurnError):
    """A row of a book is wrong."""

    def __init__(self, index):
        self.index = index
