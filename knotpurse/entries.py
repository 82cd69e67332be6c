"""The seven entries; what makes none of them is refused with NoEntry."""

from knotpurse.checks import is_note, is_whole, is_word
from knotpurse.errors import NoEntry

MOST_COINS = 10 ** 12
LEAST_UNTIL = 2
MOST_UNTIL = 31


def check_fields(words, coins, note):
    """Refuse fields that no entry has; words are its heads and its promise's word."""
    if not all([is_word(word) for word in words]):
        raise NoEntry("a head or a word is one to eight small letters")
    if not is_whole(coins, 1, MOST_COINS):
        raise NoEntry("coins are a whole number from 1 to 10 ** 12")
    if not is_note(note):
        raise NoEntry("a note is empty, or one to eight small letters")


class Entry:
    """What the seven have in common; by itself it is no entry, so nothing is told and no year fits."""

    def told(self):
        """A word and the fields in their order, of each of the seven."""
        return ()

    def fits(self, year, date):
        """Whether an entry, dated so, may stand in a book of the year."""
        return False


class Give(Entry):
    """Money comes to the head."""

    def __init__(self, head, coins, note):
        check_fields([head], coins, note)
        self.head = head
        self.coins = coins
        self.note = note

    def told(self):
        return ("give", self.head, self.coins, self.note)

    def fits(self, year, date):
        return self.head in year.names()


class Hold(Entry):
    """Money of the head is held back from its date on, till the day ahead of until."""

    def __init__(self, head, coins, until, note):
        check_fields([head], coins, note)
        if not is_whole(until, LEAST_UNTIL, MOST_UNTIL):
            raise NoEntry("until is a whole number from 2 to 31")
        self.head = head
        self.coins = coins
        self.until = until
        self.note = note

    def told(self):
        return ("hold", self.head, self.coins, self.until, self.note)

    def fits(self, year, date):
        return self.head in year.names() and date < self.until <= year.days + 1


class Move(Entry):
    """Money of the head becomes the other one's."""

    def __init__(self, head, other, coins, note):
        check_fields([head, other], coins, note)
        if head == other:
            raise NoEntry("a move is from one head to another one")
        self.head = head
        self.other = other
        self.coins = coins
        self.note = note

    def told(self):
        return ("move", self.head, self.other, self.coins, self.note)

    def fits(self, year, date):
        names = year.names()
        return self.head in names and self.other in names


class Spend(Entry):
    """Money of the head is spent at once."""

    def __init__(self, head, coins, note):
        check_fields([head], coins, note)
        self.head = head
        self.coins = coins
        self.note = note

    def told(self):
        return ("spend", self.head, self.coins, self.note)

    def fits(self, year, date):
        return self.head in year.names()


class Promise(Entry):
    """Money of the head is promised, under this word."""

    def __init__(self, word, head, coins, note):
        check_fields([word, head], coins, note)
        self.word = word
        self.head = head
        self.coins = coins
        self.note = note

    def told(self):
        return ("promise", self.word, self.head, self.coins, self.note)

    def fits(self, year, date):
        return self.head in year.names()


class Lessen(Entry):
    """A promise is lessened."""

    def __init__(self, word, coins, note):
        check_fields([word], coins, note)
        self.word = word
        self.coins = coins
        self.note = note

    def told(self):
        return ("lessen", self.word, self.coins, self.note)

    def fits(self, year, date):
        # Its head is its promise's: it names none that a year might lack.
        return True


class Out(Entry):
    """Money is paid out of a promise; what is more than the promise has left is spent at once, of its head."""

    def __init__(self, word, coins, note):
        check_fields([word], coins, note)
        self.word = word
        self.coins = coins
        self.note = note

    def told(self):
        return ("out", self.word, self.coins, self.note)

    def fits(self, year, date):
        # As a Lessen: it names no head.
        return True


def read_entry(told):
    """The entry of which this is the told."""
    # A pattern in parentheses takes lists, too.
    if not isinstance(told, tuple):
        raise NoEntry("the told of an entry is a tuple")
    match told:
        case ("give", head, coins, note):
            return Give(head, coins, note)
        case ("hold", head, coins, until, note):
            return Hold(head, coins, until, note)
        case ("move", head, other, coins, note):
            return Move(head, other, coins, note)
        case ("spend", head, coins, note):
            return Spend(head, coins, note)
        case ("promise", word, head, coins, note):
            return Promise(word, head, coins, note)
        case ("lessen", word, coins, note):
            return Lessen(word, coins, note)
        case ("out", word, coins, note):
            return Out(word, coins, note)
    raise NoEntry("no entry is told so")
