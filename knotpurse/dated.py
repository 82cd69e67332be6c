"""What dated entries come to: the sums of heads, what limits count, what promises have left, and the breach.

Inside the package an entry stands in a row (number, date, told), so that nothing done to an entry's object counts.
"""

from knotpurse.checks import check_day, check_head, is_list, is_row, is_whole
from knotpurse.entries import Entry
from knotpurse.errors import NoEntry, NoNumber, NoPromise, Passed

MOST_ROWS = 40
SUMS = ("given", "moved", "spent", "promised", "held", "left")
# Of one date these are gone through ahead of all others.
TURNS = {"promise": 0, "lessen": 1, "out": 2}
LAST_TURN = 3


def turn(row):
    """Where a row stands as rows are gone through."""
    number, date, told = row
    return (date, TURNS.get(told[0], LAST_TURN), number)


def day_sums(changes):
    """What there is at each day, of the changes that come at each day."""
    total = 0
    sums = []
    for change in changes:
        total += change
        sums.append(total)
    return sums


def told_fitting(year, date, entry):
    """The told of an entry that fits; the date is a day of the year."""
    if not isinstance(entry, Entry) or not entry.fits(year, date):
        raise NoEntry("this is no entry, or does not fit the year")
    return entry.told()


def numbered(year, rows):
    """The rows (number, date, told) of a list of tuples (date, entry)."""
    if not is_list(rows, 0, MOST_ROWS):
        raise NoEntry("rows are a list of at most 40 tuples")
    found = []
    for number, row in enumerate(rows):
        if not is_row(row, 2) or not is_whole(row[0], 1, year.days):
            raise NoEntry("a row is a day of the year and an entry")
        found.append((number, row[0], told_fitting(year, row[0], row[1])))
    return found


class Tally:
    """What rows (number, date, told), by numbers, come to; it is asked for heads and days of its year only."""

    def __init__(self, year, rows):
        self.year = year
        self.rows = list(rows)
        self.faults = []
        # By words: the head and the date of the promise, and how what it has left changes at each day.
        self.promises = {}
        self.word_changes = {}
        # By numbers: the head, and the coins that limits count.
        self.takes = {}
        self.changes = {name: {head: self.no_changes() for head in year.names()} for name in SUMS}
        self.limit_changes = [self.no_changes() for limit in year.limits]
        for number, date, told in self.gone_through():
            self.go_through(number, date, told)
        self.day_takes = [day_sums(changes) for changes in self.limit_changes]
        self.sums_by_head = {head: self.sums_of(head) for head in year.names()}

    def no_changes(self):
        """Nothing for each day; day 0 and the day behind the last one stand for what no date is."""
        return [0] * (self.year.days + 2)

    def gone_through(self):
        """The rows in the order in which they are gone through."""
        return sorted(self.rows, key=turn)

    def go_through(self, number, date, told):
        """Write down what the row changes; all ahead of it have been gone through."""
        match told:
            case ("give", head, coins, _):
                self.give(date, head, coins)
            case ("hold", head, coins, until, _):
                self.hold(date, until, head, coins)
            case ("move", head, other, coins, _):
                self.change("moved", date, head, -coins)
                self.change("moved", date, other, coins)
            case ("spend", head, coins, _):
                self.change("spent", date, head, coins)
                self.take(number, date, head, coins)
            case ("promise", word, head, coins, _):
                self.promise(number, date, word, head, coins)
            case ("lessen", word, coins, _):
                self.lessen(number, date, word, coins)
            case ("out", word, coins, _):
                self.pay_out(number, date, word, coins)

    def change(self, name, date, head, coins):
        """The sum of this name is greater by so much from the date on."""
        changes = self.changes[name][head]
        changes[date] += coins

    def hold(self, date, until, head, coins):
        """So much is held from the date on, till the day ahead of until."""
        if date < until:
            self.change("held", date, head, coins)
            self.change("held", until, head, -coins)

    def give(self, date, head, coins):
        """So much is given, and of it each rule of the head holds its part."""
        self.change("given", date, head, coins)
        for ruled, part, whole, until in self.year.rules:
            if ruled == head:
                self.hold(date, until, head, coins * part // whole)

    def promise(self, number, date, word, head, coins):
        """So much is promised, unless the word has its promise."""
        if word in self.promises:
            self.faults.append((date, number))
            return
        self.promises[word] = (head, date)
        self.word_changes[word] = self.no_changes()
        self.promise_more(date, word, coins)
        self.take(number, date, head, coins)

    def promise_more(self, date, word, coins):
        """The promise of the word has so much more left from the date on."""
        changes = self.word_changes[word]
        changes[date] += coins
        head, promised_at = self.promises[word]
        self.change("promised", date, head, coins)

    def lessen(self, number, date, word, coins):
        """The promise has so much less, unless there is none, or it has not so much left."""
        if word not in self.promises or coins > sum(self.word_changes[word]):
            self.faults.append((date, number))
            return
        self.promise_more(date, word, -coins)
        head, promised_at = self.promises[word]
        self.take(number, date, head, -coins)

    def pay_out(self, number, date, word, coins):
        """So much is spent, of what the promise has left as far as this goes; limits count what is over."""
        if word not in self.promises:
            self.faults.append((date, number))
            return
        paid = min(coins, sum(self.word_changes[word]))
        self.promise_more(date, word, -paid)
        head, promised_at = self.promises[word]
        self.change("spent", date, head, coins)
        self.take(number, date, head, coins - paid)

    def take(self, number, date, head, coins):
        """The row takes so much of the limits that count this date and head."""
        self.takes[number] = (head, coins)
        for k in self.counting(head, date):
            changes = self.limit_changes[k]
            changes[date] += coins

    def counting(self, head, date):
        """The numbers of the limits that count what is dated so of this head."""
        knots = self.year.knots(head)
        limits = self.year.limits
        return [k for k, (at, first, last, most) in enumerate(limits) if at in knots and first <= date <= last]

    def sums_of(self, head):
        """All six sums of the head by their names, each a list by days."""
        sums = {name: day_sums(self.changes[name][head]) for name in SUMS}
        sums["left"] = [
            given + moved - spent - promised - held
            for given, moved, spent, promised, held in zip(
                sums["given"], sums["moved"], sums["spent"], sums["promised"], sums["held"]
            )
        ]
        return sums

    def sum_at(self, name, head, date):
        """The sum of this name of the head at the date."""
        return self.sums_by_head[head][name][date]

    def taken_at(self, k, date):
        """What limit number k has counted at a date of it."""
        return self.day_takes[k][date]

    def passes(self, k, day):
        """Whether limit number k is passed at the day."""
        head, first, last, most = self.year.limits[k]
        return first <= day <= last and self.taken_at(k, day) > most

    def places(self, day):
        """The places of the day at which there is a breach, in their order."""
        faults = [("promise", number) for date, number in sorted(self.faults) if date == day]
        heads = [("left", head) for head in self.year.names() if self.sum_at("left", head, day) < 0]
        limits = [("limit", k) for k in range(len(self.year.limits)) if self.passes(k, day)]
        return faults + heads + limits

    def breach(self):
        """The first day that has such a place, and the first of these, or None."""
        for day in range(1, self.year.days + 1):
            places = self.places(day)
            if places:
                return (day, places[0])
        return None

    def room(self, head, date):
        """The least that the head has left from the date on."""
        return min(self.sums_by_head[head]["left"][date:self.year.days + 1])

    def spares(self, head, date):
        """What a Promise of the head, dated so, may take at most at each place it comes to.

        Told are tuples (coins, (day, place)) in the order of breaches, so that the first of the least ones binds.
        """
        counting = self.counting(head, date)
        found = []
        for day in range(date, self.year.days + 1):
            found.append((self.sum_at("left", head, day), (day, ("left", head))))
            for k in counting:
                at, first, last, most = self.year.limits[k]
                if day <= last:
                    found.append((most - self.taken_at(k, day), (day, ("limit", k))))
        return found


class Dated:
    """Entries, each with a date; what is no list of such rows is refused with NoEntry."""

    def __init__(self, year, rows):
        self.tally = Tally(year, numbered(year, rows))
        self.first_breach = self.tally.breach()

    def breach(self):
        """The breach of the entries, or None."""
        return self.first_breach

    def check_passed(self, date):
        """Refuse a date at which the breach has come."""
        if self.first_breach is not None:
            day, place = self.first_breach
            if day <= date:
                raise Passed(day, place)

    def ask(self, name, head, date):
        """The sum of this name, where nothing is to be refused."""
        year = self.tally.year
        check_head(year, head)
        check_day(date, 1, year.days)
        self.check_passed(date)
        return self.tally.sum_at(name, head, date)

    def given(self, head, date):
        """The sum of its Gives."""
        return self.ask("given", head, date)

    def moved(self, head, date):
        """The sum of Moves to it less that of Moves from it."""
        return self.ask("moved", head, date)

    def spent(self, head, date):
        """The sum of its Spends and of the Outs of its promises."""
        return self.ask("spent", head, date)

    def promised(self, head, date):
        """What its promises have left."""
        return self.ask("promised", head, date)

    def held(self, head, date):
        """What Holds and rules hold back."""
        return self.ask("held", head, date)

    def left(self, head, date):
        """What is given and moved less what is spent, promised and held."""
        return self.ask("left", head, date)

    def taken(self, k, date):
        """What limit number k has counted."""
        limits = self.tally.year.limits
        if not is_whole(k, 0, len(limits) - 1):
            raise NoNumber("no limit has this number")
        head, first, last, most = limits[k]
        check_day(date, first, last)
        self.check_passed(date)
        return self.tally.taken_at(k, date)

    def word_left(self, word, date):
        """What the promise of the word has left."""
        check_day(date, 1, self.tally.year.days)
        self.check_passed(date)
        # Not all that may be handed in can be looked up in a dict.
        if not isinstance(word, str) or word not in self.tally.promises:
            raise NoPromise("no promise has this word")
        head, promised_at = self.tally.promises[word]
        if promised_at > date:
            raise NoPromise("the promise of this word is dated later")
        return sum(self.tally.word_changes[word][:date + 1])
