"""Books: lines entered on rising days; what is live, what was known, and what may still be promised."""

from knotpurse.checks import check_day, check_head, is_whole
from knotpurse.dated import SUMS, Dated, Tally, told_fitting
from knotpurse.entries import read_entry
from knotpurse.errors import Full, Leaned, NoNumber, NoPromise, Passed, Taken

MOST_LINES = 40


def row_of(rows, number):
    """The one among the rows (number, date, told) with this number."""
    if is_whole(number, 0, MOST_LINES):
        for row in rows:
            if row[0] == number:
                return row
    raise NoNumber("no live entry has this number")


def without(rows, number):
    """The rows but the one with this number."""
    return [row for row in rows if row[0] != number]


def leaning_on(rows, row):
    """The numbers of the Lessens and Outs among the rows that have the word of this one, if it is a Promise."""
    number, date, told = row
    if told[0] != "promise":
        return []
    return [other for other, dated, leaning in rows if leaning[0] in ("lessen", "out") and leaning[1] == told[1]]


def check_leaned(rows, row):
    """Refuse to do without a Promise on which others lean."""
    numbers = leaning_on(rows, row)
    if numbers:
        raise Leaned(numbers)


def check_word(told, others):
    """Refuse a second Promise of a word, and a Lessen or an Out of a word without one."""
    if told[0] not in ("promise", "lessen", "out"):
        return
    found = any([other[0] == "promise" and other[1] == told[1] for number, date, other in others])
    if told[0] == "promise" and found:
        raise Taken("a live promise has this word")
    if told[0] != "promise" and not found:
        raise NoPromise("no live promise has this word")


def passing(year, rows):
    """The tally of the rows, which have no breach."""
    tally = Tally(year, rows)
    breach = tally.breach()
    if breach is not None:
        day, place = breach
        raise Passed(day, place)
    return tally


class Book:
    """A book of a year, without lines at first."""

    def __init__(self, year):
        self.year = year
        self.written = []
        # What was live behind so many lines never changes, so it is kept: tallies[0] behind none, and so on.
        self.tallies = [Tally(year, [])]

    def check_line(self, day):
        """Refuse a further line of this day."""
        if len(self.written) >= MOST_LINES:
            raise Full("the book has 40 lines")
        check_day(day, max(1, self.today()), self.year.days)

    def write(self, line, tally):
        """Write the line, behind which things are as in the tally."""
        self.written.append(line)
        self.tallies.append(tally)

    def put(self, line, others, date, told):
        """Write a line that brings an entry in beside the others; tell its number, and the first one like it."""
        number = len(self.entered_on())
        self.write(line, passing(self.year, others + [(number, date, told)]))
        again = [other for other, dated, alike in others if dated == date and alike == told]
        return (number, min(again, default=None))

    def entered_on(self):
        """By numbers, the days on which entries were entered."""
        return [line[1] for line in self.written if line[0] != "back"]

    def enter(self, day, date, entry):
        """Write an in line."""
        self.check_line(day)
        check_day(date, 1, day)
        told = told_fitting(self.year, date, entry)
        others = self.live()
        check_word(told, others)
        return self.put(("in", day, date, told), others, date, told)

    def back(self, day, number):
        """Write a back line."""
        self.check_line(day)
        row = row_of(self.live(), number)
        others = without(self.live(), number)
        check_leaned(others, row)
        self.write(("back", day, number), passing(self.year, others))

    def right(self, day, number, date, entry):
        """Write a right line."""
        self.check_line(day)
        check_day(date, 1, day)
        row = row_of(self.live(), number)
        told = told_fitting(self.year, date, entry)
        others = without(self.live(), number)
        check_word(told, others)
        old = row[2]
        if told[0] != "promise" or told[1] != old[1]:
            check_leaned(others, row)
        return self.put(("right", day, number, date, told), others, date, told)

    def today(self):
        """The day of the last line, 0 where there is none."""
        return self.written[-1][1] if self.written else 0

    def lines(self):
        """The lines in order."""
        return list(self.written)

    def live(self):
        """(number, date, told) of the live entries, by numbers."""
        return list(self.tallies[-1].rows)

    def late(self):
        """The numbers of the live entries that are dated ahead of the day of their line."""
        days = self.entered_on()
        return [number for number, date, told in self.live() if date < days[number]]

    def tally_known(self, day):
        """The tally behind the last line of a day not above this one."""
        check_day(day, 0, self.year.days)
        return self.tallies[len([line for line in self.written if line[1] <= day])]

    def known(self, day):
        """What was live, as known on the day."""
        rows = self.tally_known(day).rows
        return Dated(self.year, [(date, read_entry(told)) for number, date, told in rows])

    def sums_together(self, heads, day, date):
        """Each of the six sums of these heads together."""
        tally = self.tally_known(day)
        check_day(date, 1, self.year.days)
        return {name: sum([tally.sum_at(name, head, date) for head in heads]) for name in SUMS}

    def sums(self, head, day, date):
        """The six sums of the head at the date, as known on the day."""
        check_head(self.year, head)
        return self.sums_together([head], day, date)

    def knot(self, head, day, date):
        """The six sums of all heads under the head together."""
        return self.sums_together(self.year.under(head), day, date)

    def may(self, head, date):
        """The most that may be promised of the head at the date, and the breach of one coin more."""
        check_head(self.year, head)
        check_day(date, 1, self.year.days)
        # Of several places with as little to spare, min tells the first, and one coin more is refused there.
        return min(self.tallies[-1].spares(head, date), key=lambda spare: spare[0])

    def twin(self):
        """A book by itself with the same lines."""
        other = Book(self.year)
        other.written = list(self.written)
        other.tallies = list(self.tallies)
        return other
