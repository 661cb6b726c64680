"""All errors of the package, also those that only later stages raise."""


class HouseError(ValueError):
    """The common base of the errors about arguments of a wrong kind."""


class InvalidCircle(HouseError):
    """What should be a circle is none."""


class InvalidDeed(HouseError):
    """What should be a deed, an entry or a tuple of entries is none."""


class InvalidState(HouseError):
    """What should be a state, pairs or the parts of a state is none."""


class InvalidDisk(HouseError):
    """What should be a disk is none."""


class InvalidBlock(HouseError):
    """What should be a block or a tuple of blocks is none."""


class InvalidRecord(HouseError):
    """What should be a record or a tuple of records is none."""


class InvalidFacts(HouseError):
    """What should be facts is none, or facts would not be right."""


class InvalidLetter(HouseError):
    """What should be a letter is none."""


class InvalidHouse(HouseError):
    """What should be the memory of a house is none."""


class InvalidEvent(HouseError):
    """What should have the form of an event has not."""


class InvalidWorld(HouseError):
    """What should be a world is none."""


class InvalidPicture(HouseError):
    """What should be a picture is none."""


class InvalidHistory(HouseError):
    """What should be a history is none."""


class InvalidOperation(HouseError):
    """What is asked cannot be done with these arguments."""


class ParseError(HouseError):
    """A text that cannot be read; spot tells where, None if it is no text."""

    def __init__(self, spot):
        self.spot = spot


class InvalidNumber(IndexError):
    """A value that is no integer, or beyond the told bounds."""

    def __init__(self, given):
        self.given = given


class UnknownName(KeyError):
    """A name that is none of the told ones."""

    def __init__(self, wanted):
        self.wanted = wanted


class TooMany(OverflowError):
    """More than the told limit."""

    def __init__(self, limit):
        self.limit = limit


class Refused(ArithmeticError):
    """What cannot be done now; the reason is a tuple that begins with a word."""

    def __init__(self, reason):
        self.reason = reason
