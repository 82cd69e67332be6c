"""The refusals. Each stands right under PurseError, so that none is caught as another one."""


class PurseError(ValueError):
    """Any refusal."""


class NoYear(PurseError):
    """Something is no year."""


class NoHead(PurseError):
    """Something is no head of the year."""


class NoEntry(PurseError):
    """Something is no entry, or does not fit the year."""


class NoDay(PurseError):
    """Something is no day, or none that may stand here."""


class NoNumber(PurseError):
    """Something is the number of nothing here."""


class NoPromise(PurseError):
    """No promise has the word."""


class Taken(PurseError):
    """A promise has the word already."""


class Full(PurseError):
    """The book has no room for a further line."""


class NoText(PurseError):
    """Something is no text of a year or of lines."""


class NoRow(PurseError):
    """Something is no row for the desk."""


class Passed(PurseError):
    """The entries have a breach: its day and its place."""

    def __init__(self, day, place):
        self.day = day
        self.place = place


class Leaned(PurseError):
    """Other entries lean on a promise: their numbers."""

    def __init__(self, numbers):
        self.numbers = list(numbers)
