"""What numbers, words, lists and rows are, and what is a head or a day of a year, for all modules of the package."""

from knotpurse.errors import NoDay, NoHead

LETTERS = "abcdefghijklmnopqrstuvwxyz"
MOST_LETTERS = 8


def is_whole(value, least, most):
    """Whether the value is a whole number from least to most."""
    # A bool is an int to Python, but no number here.
    if isinstance(value, bool) or not isinstance(value, int):
        return False
    return least <= value <= most


def is_word(value):
    """Whether the value is a text of one to eight small letters."""
    if not isinstance(value, str) or not 1 <= len(value) <= MOST_LETTERS:
        return False
    return all([sign in LETTERS for sign in value])


def is_note(value):
    """Whether the value is the empty text or a word."""
    return value == "" or is_word(value)


def is_list(value, least, most):
    """Whether the value is a list of least to most items."""
    return isinstance(value, list) and least <= len(value) <= most


def is_row(value, many):
    """Whether the value is a tuple of so many items."""
    return isinstance(value, tuple) and len(value) == many


def check_head(year, head):
    """Refuse what is no head of the year."""
    if head not in year.names():
        raise NoHead("no head of the year has this name")


def check_day(day, least, most):
    """Refuse what is no whole number from least to most."""
    if not is_whole(day, least, most):
        raise NoDay("no such day may stand here")
