"""Years and lines as texts.

What is read is written once more and held against the text, so that a year and a line have just one text each.
"""

from knotpurse.checks import is_whole
from knotpurse.entries import read_entry
from knotpurse.errors import NoEntry, NoText, NoYear
from knotpurse.years import Year

FIGURES = "0123456789"
MOST_FIGURES = 16
MOST_NUMBER = 10 ** 16 - 1
NO_NOTE = "-"


def is_number(word):
    """Whether the word is a number by at most 16 figures, without noughts ahead."""
    if not 1 <= len(word) <= MOST_FIGURES or not all([sign in FIGURES for sign in word]):
        return False
    return word == "0" or word[0] != "0"


def read_field(word):
    """The number that the word tells, else the word itself."""
    return int(word) if is_number(word) else word


def read_fields(words):
    """The fields of these words."""
    return tuple([read_field(word) for word in words])


def rows_of(text):
    """The rows of a text, without the line end that stands behind each of them."""
    if not isinstance(text, str):
        raise NoText("this is no text")
    *rows, last = text.split("\n")
    if last != "":
        raise NoText("the last row has no line end behind it")
    return rows


def text_of(rows):
    """The text of rows, with a line end behind each of them."""
    return "".join([f"{row}\n" for row in rows])


def head_row(name, upper):
    """The row of a head."""
    return f"head {name}" if upper == "" else f"head {name} in {upper}"


def year_text(year):
    """The text of a year."""
    if not isinstance(year, Year):
        raise NoText("this is no year")
    rows = [f"year {year.days}"]
    rows += [head_row(name, upper) for name, upper in year.heads]
    rows += [f"limit {head} {first} {last} {most}" for head, first, last, most in year.limits]
    rows += [f"rule {head} {part} {whole} {until}" for head, part, whole, until in year.rules]
    return text_of(rows)


def year_of(rows):
    """The year of rows, in whatever order they stand; what makes no year is refused with NoYear."""
    days = None
    heads = []
    limits = []
    rules = []
    for row in rows:
        words = row.split(" ")
        match words:
            case ["year", many]:
                days = read_field(many)
            case ["head", name]:
                heads.append((name, ""))
            case ["head", name, "in", upper]:
                heads.append((name, upper))
            case ["limit", *fields]:
                limits.append(read_fields(fields))
            case ["rule", *fields]:
                rules.append(read_fields(fields))
            case _:
                raise NoText("no row of a year is so")
    return Year(days, heads, limits, rules)


def read_year(text):
    """The year of a text."""
    try:
        year = year_of(rows_of(text))
    except NoYear:
        raise NoText("this is the text of no year") from None
    # Rows in another order, a second row of days and an empty name above were read, too.
    if year_text(year) != text:
        raise NoText("no year has this text")
    return year


def number_text(number):
    """The figures of a number."""
    if not is_whole(number, 0, MOST_NUMBER):
        raise NoText("numbers have at most 16 figures")
    return str(number)


def told_text(told):
    """The words of an entry's told."""
    try:
        *fields, note = read_entry(told).told()
    except NoEntry:
        raise NoText("no entry is told so") from None
    return " ".join([str(field) for field in fields] + [NO_NOTE if note == "" else note])


def line_text(line):
    """The row of a line, without its line end."""
    # A pattern in parentheses takes lists, too.
    if not isinstance(line, tuple):
        raise NoText("a line is a tuple")
    match line:
        case ("in", day, date, told):
            return f"in {number_text(day)} {number_text(date)} {told_text(told)}"
        case ("back", day, number):
            return f"back {number_text(day)} {number_text(number)}"
        case ("right", day, number, date, told):
            return f"right {number_text(day)} {number_text(number)} {number_text(date)} {told_text(told)}"
    raise NoText("no line is so")


def lines_text(lines):
    """The text of a list of lines."""
    if not isinstance(lines, list):
        raise NoText("this is no list of lines")
    return text_of([line_text(line) for line in lines])


def read_told(words, note):
    """What the words of a told and of its note stand for."""
    return read_fields(words) + ("" if note == NO_NOTE else note,)


def read_line(row):
    """The line of a row without its line end."""
    words = row.split(" ")
    match words:
        case ["in", day, date, *fields, note]:
            line = ("in", read_field(day), read_field(date), read_told(fields, note))
        case ["back", day, number]:
            line = ("back", read_field(day), read_field(number))
        case ["right", day, number, date, *fields, note]:
            line = ("right", read_field(day), read_field(number), read_field(date), read_told(fields, note))
        case _:
            raise NoText("no line has this row")
    # What is no line has no text; and a blank at the end was read as an empty note, too.
    if line_text(line) != row:
        raise NoText("no line has this row")
    return line


def read_lines(text):
    """The list of the lines of a text."""
    return [read_line(row) for row in rows_of(text)]
