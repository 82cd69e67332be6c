"""Lists of lines judged to be books, and books held against one another."""

from knotpurse.books import Book
from knotpurse.dated import SUMS
from knotpurse.entries import read_entry
from knotpurse.errors import NoText, PurseError


def write_line(book, line):
    """Enter a line into the book; told is what enter, back or right tells."""
    # A pattern in parentheses takes lists, too.
    if not isinstance(line, tuple):
        raise NoText("a line is a tuple")
    match line:
        case ("in", day, date, told):
            return book.enter(day, date, read_entry(told))
        case ("back", day, number):
            return book.back(day, number)
        case ("right", day, number, date, told):
            return book.right(day, number, date, read_entry(told))
    raise NoText("no line is so")


def judged(year, lines):
    """The book that has just these lines, or the number of the first one that no book has."""
    book = Book(year)
    for at, line in enumerate(lines):
        try:
            write_line(book, line)
        except PurseError:
            return ("wrong", at)
    return ("book", book)


def are_alike(year, other):
    """Whether the years have the same days and the same lists."""
    if year.days != other.days or year.heads != other.heads:
        return False
    return year.limits == other.limits and year.rules == other.rules


def alike_books(book, other):
    """Whether the books come to the same sums, or the first date, head and name at which they do not."""
    if not are_alike(book.year, other.year):
        return ("years", None)
    days = book.year.days
    for date in range(1, days + 1):
        for head in book.year.names():
            ours = book.sums(head, days, date)
            theirs = other.sums(head, days, date)
            for name in SUMS:
                if ours[name] != theirs[name]:
                    return ("unlike", (date, head, name))
    return ("alike", None)
