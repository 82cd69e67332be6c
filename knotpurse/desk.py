"""The desk: rows of text, answered by texts."""

from knotpurse.books import Book
from knotpurse.checks import is_word
from knotpurse.dated import SUMS
from knotpurse.errors import NoRow, NoText, NoYear
from knotpurse.judging import judged, write_line
from knotpurse.leanings import fills, needs
from knotpurse.texts import is_number, lines_text, read_fields, read_line, read_lines, read_year

# What stands behind the first word of a row: h for a head, n for a number.
FORMS = {
    "sums": "hnn", "knot": "hnn", "may": "hn", "needs": "n", "fills": "hnn",
    "live": "", "lines": "", "undo": "", "redo": "",
}
# Behind these stand a line end and a text.
WITH_TEXT = ("year", "judge")


def is_formed(words, form):
    """Whether the words are heads and numbers as the form has them."""
    if len(words) != len(form):
        return False
    return all([is_word(word) if kind == "h" else is_number(word) for word, kind in zip(words, form)])


def read_row(row):
    """A tuple: the first word of the row, and what stands behind it; ("line", line) of a line's row."""
    if not isinstance(row, str):
        raise NoRow("a row is a text")
    first, end, text = row.partition("\n")
    if first in WITH_TEXT and end == "\n":
        return (first, text)
    words = row.split(" ")
    if words[0] in FORMS:
        if not is_formed(words[1:], FORMS[words[0]]):
            raise NoRow("something else stands behind this word")
        return read_fields(words)
    try:
        return ("line", read_line(row))
    except NoText:
        raise NoRow("the desk knows no such row") from None


def six_text(sums):
    """The six sums in their order."""
    return " ".join([str(sums[name]) for name in SUMS])


def numbers_text(numbers):
    """The numbers, or that there is none."""
    return " ".join([str(number) for number in numbers]) if numbers else "none"


def may_text(told):
    """What may still be promised, and what binds."""
    most, (day, (kind, at)) = told
    return f"{most} {day} {kind} {at}"


def fills_text(told):
    """One of the three answers of fills."""
    kind, found = told
    if kind == "limit":
        day, (place, k) = found
        return f"limit {day} {k}"
    if kind == "short":
        return f"short {found}"
    return "moves" + "".join([f" {other} {coins}" for other, coins in found])


def judged_text(told):
    """Whether lines are a book."""
    kind, found = told
    return "book" if kind == "book" else f"wrong {found}"


def line_answer(told):
    """The answer to a line of which the book tells this."""
    if told is None:
        return "ok"
    number, again = told
    return f"ok {number}" if again is None else f"ok {number} again {again}"


def answer(book, asked):
    """The answer to a question that changes nothing."""
    match asked:
        case ("sums", head, day, date):
            return six_text(book.sums(head, day, date))
        case ("knot", head, day, date):
            return six_text(book.knot(head, day, date))
        case ("may", head, date):
            return may_text(book.may(head, date))
        case ("needs", number):
            return numbers_text(needs(book, number))
        case ("fills", head, date, coins):
            return fills_text(fills(book, head, date, coins))
        case ("judge", text):
            return judged_text(judged(book.year, read_lines(text)))
        case ("live",):
            return numbers_text([row[0] for row in book.live()])
    # No other question is left than that for the lines.
    return lines_text(book.lines())


class Desk:
    """A desk, without a year at first."""

    def __init__(self):
        self.book = None
        # The book as it was ahead of each of its lines, and as it was ahead of each undo: twins, never changed.
        self.earlier = []
        self.undone = []

    def say(self, row):
        """The answer to a row."""
        asked = read_row(row)
        if asked[0] == "year":
            return self.begin(read_year(asked[1]))
        if self.book is None:
            raise NoYear("the desk has no year yet")
        match asked:
            case ("line", line):
                return self.enter_line(line)
            case ("undo",):
                return self.undo()
            case ("redo",):
                return self.redo()
        return answer(self.book, asked)

    def begin(self, year):
        """From now on there is an empty book of the year."""
        self.book = Book(year)
        self.earlier = []
        self.undone = []
        return "ok"

    def enter_line(self, line):
        """Enter the line into a twin, which stands in the book's place where nothing is refused."""
        book = self.book.twin()
        told = write_line(book, line)
        self.earlier.append(self.book)
        self.book = book
        self.undone = []
        return line_answer(told)

    def undo(self):
        """The book as it was ahead of its last line."""
        if not self.earlier:
            raise NoRow("there is nothing to undo")
        self.undone.append(self.book)
        self.book = self.earlier.pop()
        return "ok"

    def redo(self):
        """The book with the last line undone."""
        if not self.undone:
            raise NoRow("there is nothing to redo")
        self.earlier.append(self.book)
        self.book = self.undone.pop()
        return "ok"
