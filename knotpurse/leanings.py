"""What leans on live entries: whether one may be back, what would go with it, and what moves let a promise by."""

from knotpurse.books import leaning_on, row_of, without
from knotpurse.checks import check_day, check_head, is_whole
from knotpurse.dated import Tally
from knotpurse.entries import MOST_COINS
from knotpurse.errors import NoEntry


def may_be_back(book, number):
    """Whether the live entry may be taken back, or what is in the way."""
    rows = book.live()
    leaning = leaning_on(rows, row_of(rows, number))
    if leaning:
        return ("leaned", leaning)
    breach = Tally(book.year, without(rows, number)).breach()
    if breach is not None:
        return ("passed", breach)
    return ("yes", None)


def takes_of(tally, number, heads):
    """Whether the row with this number takes coins of a limit at these heads."""
    if number not in tally.takes:
        return False
    head, coins = tally.takes[number]
    return coins > 0 and head in heads


def draws_on_head(tally, row, head, day):
    """Whether the head would have more left at the day without this row (the parts that rules hold aside)."""
    number, date, told = row
    if date > day:
        return False
    if told[0] == "hold":
        return told[1] == head and told[3] > day
    if told[0] == "move":
        return told[1] == head
    return takes_of(tally, number, [head])


def draws_on_limit(tally, row, k, day):
    """Whether limit number k has counted coins of this row at the day."""
    number, date, told = row
    head, first, last, most = tally.year.limits[k]
    return first <= date <= day and takes_of(tally, number, tally.year.under(head))


def last_that_draws(tally, breach):
    """The last row, as they are gone through, that draws on the place of the breach."""
    day, (kind, at) = breach
    rows = tally.gone_through()
    if kind == "left":
        return [row for row in rows if draws_on_head(tally, row, at, day)][-1]
    return [row for row in rows if draws_on_limit(tally, row, at, day)][-1]


def needs(book, number):
    """The numbers of the live entries that would have to go with this one, in the order in which they go."""
    stay = book.live()
    row = row_of(stay, number)
    gone = []
    while True:
        going = [row[0]] + leaning_on(stay, row)
        gone = gone + going
        stay = [one for one in stay if one[0] not in going]
        tally = Tally(book.year, stay)
        breach = tally.breach()
        if breach is None:
            return gone[1:]
        row = last_that_draws(tally, breach)


def gifts(tally, head, date, coins):
    """What the other heads give, in their order, so that the head has so many coins from the date on."""
    lacking = coins - tally.room(head, date)
    rows = []
    for other in tally.year.names():
        gift = min(lacking, tally.room(other, date))
        if other != head and gift > 0:
            rows.append((other, gift))
            lacking -= gift
    return rows


def fills(book, head, date, coins):
    """What moves would let a Promise of so many coins of the head by, or why none would."""
    check_head(book.year, head)
    check_day(date, 1, book.year.days)
    if not is_whole(coins, 1, MOST_COINS):
        raise NoEntry("coins are a whole number from 1 to 10 ** 12")
    tally = Tally(book.year, book.live())
    for spare, (day, place) in tally.spares(head, date):
        if place[0] == "limit" and spare < coins:
            return ("limit", (day, place))
    missing = coins - sum([tally.room(name, date) for name in book.year.names()])
    if missing > 0:
        return ("short", missing)
    return ("moves", gifts(tally, head, date, coins))
