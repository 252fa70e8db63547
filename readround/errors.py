"""The refusals of the program, each straight under ReadError."""

# The classes with fields leave Python's own making of an error alone, so that
# an error that is copied is made of its fields once more.


class ReadError(ValueError):
    """Anything that the program refuses."""


class BadBook(ReadError):
    """The sections make no book."""


class BadCalendar(ReadError):
    """The years make no calendar."""


class BadFeast(ReadError):
    """What was handed in makes no feast."""


class BadRow(ReadError):
    """What was handed in makes no row of pieces."""


class BadHouse(ReadError):
    """Calendar, feasts and rows make no house."""


class BadNumber(ReadError):
    """A number lies outside of what is asked for."""


class NoDay(ReadError):
    """There is no such day or year."""


class NoRow(ReadError):
    """The house has no such row."""


class NoPiece(ReadError):
    """The row has no such piece."""


class TooTight(ReadError):
    """A block is longer than the limit; block is the section with which it begins."""

    def __init__(self, block):
        self.block = block


class NeverDone(ReadError):
    """More pieces of the going row name come due in a turn than it has room to read."""

    def __init__(self, name, due, room):
        self.name = name
        self.due = due
        self.room = room


class TooFar(ReadError):
    """The two rows would have to be followed for too long."""


class NoDeed(ReadError):
    """The deed can't be done in the diary as it stands."""


class BadText(ReadError):
    """The text at place, counted from 0, can't stand where it does."""

    def __init__(self, place):
        self.place = place
