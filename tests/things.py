"""What several tests use: things of every kind, refusals, a year, and all that a book tells."""

from knotpurse import errors
from knotpurse.books import Book
from knotpurse.dated import Dated
from knotpurse.desk import Desk
from knotpurse.entries import Entry, Give, Hold, Lessen, Move, Out, Promise, Spend
from knotpurse.years import Year

REFUSALS = (
    errors.NoYear, errors.NoHead, errors.NoEntry, errors.NoDay, errors.NoNumber, errors.NoPromise,
    errors.Taken, errors.Full, errors.NoText, errors.NoRow, errors.Passed, errors.Leaned,
)

HEADS = [("all", ""), ("food", "all"), ("fish", "food"), ("bread", "food"), ("roof", "all"), ("gifts", "")]
NAMES = ["all", "food", "fish", "bread", "roof", "gifts"]
LIMITS = [("food", 2, 5, 100), ("all", 1, 10, 0)]
RULES = [("fish", 1, 2, 5), ("fish", 1, 3, 11), ("roof", 1, 1, 2)]

SIX = ["given", "moved", "spent", "promised", "held", "left"]

# Texts that are nearly the name of a head, or a word, that is "food".
NEARLY = ["", "fod", "foods", "foo", "Food", "FOOD", " food", "food ", "food\n", "food\t", "ood", "none"]


def a_year():
    return Year(10, HEADS, LIMITS, RULES)


def every_entry():
    """One of each of the seven, with a note and without."""
    return [
        Give("food", 5, ""), Give("food", 5, "note"),
        Hold("food", 5, 4, ""), Hold("food", 5, 4, "note"),
        Move("food", "roof", 5, ""), Move("food", "roof", 5, "note"),
        Spend("food", 5, ""), Spend("food", 5, "note"),
        Promise("word", "food", 5, ""), Promise("word", "food", 5, "note"),
        Lessen("word", 5, ""), Lessen("word", 5, "note"),
        Out("word", 5, ""), Out("word", 5, "note"),
    ]


def no_entries():
    """New things of every kind that [2] lists; none is an entry, a word, a day, coins, or a row."""
    year = Year(1, [("food", "")], [], [])
    book = Book(year)
    book.enter(1, 1, Give("food", 5, ""))
    return [
        None, True, False, 0, -1, 10 ** 5000, -10 ** 5000, "A", "abcdefghi", "a b", "1", "~", "\n", "\t",
        [], [1], ["food"], [("food",)], [[]], (), (1,), ("food",), ((),), ([],), ({},), (None, None),
        {}, {"food": 1}, {1: "food"}, set(), {"food"}, {1}, {("food", "")},
        year, book, book.known(1), Dated(year, []), Desk(), Entry(), errors.PurseError("food"),
        errors.Passed(1, ("left", "food")), errors.Leaned([1]),
    ]


def things():
    """As no_entries, and entries."""
    return no_entries() + every_entry()


def is_nought(thing):
    return type(thing) is int and thing == 0


def show(thing):
    """A short text of a thing for a test's message."""
    try:
        return repr(thing)[:200]
    except ValueError:
        return "something with a great int"  # Python makes no text of one


def refused(test, refusal, asked, *arguments):
    """Asked with the arguments, just this refusal comes, and none of the others; it is told."""
    with test.assertRaises(ValueError, msg=show(arguments)) as caught:
        asked(*arguments)
    found = [one for one in REFUSALS if isinstance(caught.exception, one)]
    test.assertEqual([refusal], found, show(arguments))
    test.assertIsInstance(caught.exception, errors.PurseError)
    return caught.exception


def passed(test, breach, asked, *arguments):
    """Asked with the arguments, Passed comes with this breach."""
    found = refused(test, errors.Passed, asked, *arguments)
    test.assertEqual(breach, (found.day, found.place), show(arguments))
    test.assertIs(tuple, type(found.place))


def leaned(test, numbers, asked, *arguments):
    """Asked with the arguments, Leaned comes with these numbers."""
    found = refused(test, errors.Leaned, asked, *arguments)
    test.assertEqual(numbers, found.numbers, show(arguments))
    test.assertIs(list, type(found.numbers))


def all_sums(book, day):
    """All six sums of each head at each date, as known on the day."""
    year = book.year
    return [book.sums(head, day, date) for head in year.names() for date in range(1, year.days + 1)]


def told_by(book):
    """What the book tells of itself."""
    year = book.year
    return (
        book.today(), book.lines(), book.live(), book.late(), [all_sums(book, day) for day in range(year.days + 1)],
        [book.may(head, date) for head in year.names() for date in (1, year.days)],
    )


def as_it_was(test, book, refusal, asked, *arguments):
    """Just this refusal comes, and behind it the book is as it was; the refusal is told."""
    before = told_by(book)
    found = refused(test, refusal, asked, *arguments)
    test.assertEqual(before, told_by(book), show(arguments))
    return found


def book_of(year, *rows):
    """A book of the year into which these rows (day, date, entry) were entered."""
    book = Book(year)
    for day, date, entry in rows:
        book.enter(day, date, entry)
    return book
