"""Years, entries and books drawn by a seed: the same seed draws the same ones."""

import model
from knotpurse.books import Book
from knotpurse.entries import read_entry
from knotpurse.errors import PurseError
from knotpurse.years import Year

WORDS = ["a", "b", "c", "d"]


def drawn_year(draw, most_days=8, most_heads=4):
    days = draw.randint(1, most_days)
    names = ["p", "q", "r", "s", "t", "u", "v", "w"][:draw.randint(1, most_heads)]
    heads = [(name, draw.choice([""] + names[:at])) for at, name in enumerate(names)]
    limits = []
    for k in range(draw.randint(0, 3)):
        first = draw.randint(1, days)
        limits.append((draw.choice(names), first, draw.randint(first, days), draw.choice([0, 10, 20, 40, 80])))
    rules = []
    for k in range(draw.randint(0, 3)):
        whole = draw.choice([2, 3, 7])
        # A third at most, so that those of one head never come to more than 1.
        rules.append((draw.choice(names), draw.randint(0, whole // 3), whole, draw.randint(2, days + 1)))
    return Year(days, heads, limits, rules)


def drawn_told(draw, year, kinds="give hold move spend promise lessen out"):
    names = year.names()
    kind = draw.choice(kinds.split())
    head, other, word = draw.choice(names), draw.choice(names), draw.choice(WORDS)
    coins, note = draw.choice([1, 2, 3, 5, 8, 13]), draw.choice(["", "", "note"])
    if kind == "give":
        return ("give", head, coins * draw.choice([5, 20]), note)
    if kind == "hold":
        return ("hold", head, coins, draw.randint(2, year.days + 1), note)
    if kind == "move" and head != other:
        return ("move", head, other, coins, note)
    if kind == "promise":
        return ("promise", word, head, coins * 2, note)
    if kind in ("lessen", "out"):
        return (kind, word, coins, note)
    return ("spend", head, coins, note)


def drawn_rows(draw, year, many):
    """Rows (number, date, told), all of which fit."""
    # Half of them begin with money at each head, so that other breaches than those of heads come, too.
    rich = year.names()[:many] if draw.random() < 0.5 else []
    rows = [(number, 1, ("give", name, 60, "")) for number, name in enumerate(rich)]
    while len(rows) < many:
        early = len(rows) < many // 3
        told = drawn_told(draw, year, "give give give promise" if early else "hold move spend spend promise lessen out")
        date = draw.randint(1, min(2, year.days) if early else year.days)
        # A word that makes a fault comes seldom, else most rows have just this breach.
        if model.fits(year, date, told) and (not model.word_refusal(told, rows) or draw.random() < 0.1):
            rows.append((len(rows), date, told))
    draw.shuffle(rows)
    return [(number, date, told) for number, (old, date, told) in enumerate(rows)]


def drawn_step(draw, book):
    """A line that may be tried at the book: its word and arguments; some are wrong."""
    days, today = book.year.days, book.today()
    day = draw.choice([today, today + 1, today - 1, days + 1, 1]) if draw.random() < 0.2 else max(1, today)
    date = draw.randint(0, day + 1) if draw.random() < 0.1 else draw.randint(1, max(1, min(day, days)))
    numbers = [row[0] for row in book.live()]
    number = draw.choice(numbers) if numbers and draw.random() < 0.9 else draw.randint(-1, 40)
    told = drawn_told(draw, book.year, "give give hold move spend promise promise lessen lessen out out")
    kind = draw.choice(["enter"] * 8 + ["back", "back", "right", "right"])
    return {"enter": ("enter", day, date, told), "back": ("back", day, number),
            "right": ("right", day, number, date, told)}[kind]


def tried(book, step):
    """What the book says to the step: ("told", what), or the refusal's name and what it bears."""
    arguments = [read_entry(one) if isinstance(one, tuple) else one for one in step[1:]]
    try:
        return ("told", getattr(book, step[0])(*arguments))
    except PurseError as refusal:
        bears = None
        if type(refusal).__name__ == "Passed":
            bears = (refusal.day, refusal.place)
        if type(refusal).__name__ == "Leaned":
            bears = refusal.numbers
        return (type(refusal).__name__, bears)


def expected(year, lines, step):
    """What the model says to the step."""
    asked = {"enter": model.enter, "back": model.back, "right": model.right}[step[0]]
    return asked(year, lines, *step[1:])


def drawn_book(draw, year, many):
    """A book at which so many steps were tried."""
    book = Book(year)
    for step in range(many):
        if step % 5 == 4 and book.today() < year.days:
            tried(book, ("enter", book.today() + 1, draw.randint(1, book.today() + 1),
                         drawn_told(draw, year, "give give spend")))
        tried(book, drawn_step(draw, book))
    return book
