"""A year carried into the next one: what each head keeps, what falls, and the promises that go on."""

from knotpurse.books import Book
from knotpurse.checks import is_list, is_row, is_whole
from knotpurse.entries import Give, Promise
from knotpurse.errors import NoYear
from knotpurse.years import MOST_WHOLE, Year

MOST_KEPT = 10 ** 15
NOTE = "carried"


def is_keeping(row, head):
    """Whether this is a rule (head, part, whole, most) by which this head keeps what is over."""
    if not is_row(row, 4) or row[0] != head or not is_whole(row[2], 1, MOST_WHOLE):
        return False
    return is_whole(row[1], 0, row[2]) and is_whole(row[3], 0, MOST_KEPT)


def are_keepings(rules, names):
    """Whether this is a list of one such rule for each head, in their order."""
    if not is_list(rules, len(names), len(names)):
        return False
    return all([is_keeping(row, name) for row, name in zip(rules, names)])


def check_carrying(book, rules, year):
    """Refuse what cannot be carried by these rules into this year."""
    if not isinstance(book, Book) or not isinstance(year, Year):
        raise NoYear("a book is carried into a year")
    if year.heads != book.year.heads:
        raise NoYear("the new year has other heads")
    if not are_keepings(rules, book.year.names()):
        raise NoYear("the rules are one for each head, in their order")


def promises_left(book):
    """(head, word, coins) for each promise that has something left on the last day, by the order of their words."""
    days = book.year.days
    known = book.known(days)
    found = []
    for word, head in sorted([(told[1], told[2]) for number, date, told in book.live() if told[0] == "promise"]):
        coins = known.word_left(word, days)
        if coins > 0:
            found.append((head, word, coins))
    return found


def bring(other, head, coins, promises):
    """Enter a head's money and its promises into the new book."""
    if coins > 0:
        other.enter(1, 1, Give(head, coins, NOTE))
    for at, word, left in promises:
        if at == head:
            other.enter(1, 1, Promise(word, head, left, NOTE))


def carried(book, rules, year):
    """The new book of the next year, and what falls at each head."""
    check_carrying(book, rules, year)
    days = book.year.days
    promises = promises_left(book)
    other = Book(year)
    fallen = []
    for head, part, whole, most in rules:
        sums = book.sums(head, days, days)
        over = sums["left"] + sums["held"]
        kept = min(over * part // whole, most)
        fallen.append((head, over - kept))
        bring(other, head, kept + sums["promised"], promises)
    return (other, fallen)
