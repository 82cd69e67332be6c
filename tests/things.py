"""What several tests use: things of every kind, refusals, and a year."""

from knotpurse import errors
from knotpurse.entries import Entry, Give, Hold, Lessen, Move, Out, Promise, Spend
from knotpurse.years import Year

REFUSALS = (
    errors.NoYear, errors.NoHead, errors.NoEntry, errors.NoDay, errors.NoNumber, errors.NoPromise,
    errors.Taken, errors.Full, errors.NoText, errors.NoRow, errors.Passed, errors.Leaned,
)

HEADS = [("all", ""), ("food", "all"), ("fish", "food"), ("bread", "food"), ("roof", "all"), ("gifts", "")]
LIMITS = [("food", 2, 5, 100), ("all", 1, 10, 0)]
RULES = [("fish", 1, 2, 5), ("fish", 1, 3, 11), ("roof", 1, 1, 2)]


def a_year():
    return Year(10, HEADS, LIMITS, RULES)


def every_entry():
    """One of each of the seven, with a note and without."""
    return [
        Give("food", 5, ""), Give("food", 5, "note"),
        Hold("food", 5, 4, ""), Hold("food", 5, 4, "note"),
        Move("food", "roof", 5, ""), Move("food", "roof", 5, "note"),
        Spend("food", 5, ""), Spend("food", 5, "note"),
        Promise("word", "food", 5, ""), Promise("word", "food", 5, "note"),
        Lessen("word", 5, ""), Lessen("word", 5, "note"),
        Out("word", 5, ""), Out("word", 5, "note"),
    ]


def things():
    """New things of every kind that [2] lists; none is a word, a day, coins, or a row."""
    plain = [
        None, True, False, 0, -1, 10 ** 5000, -10 ** 5000, "A", "abcdefghi", "a b", "1", "~", "\n", "\t",
        [], [1], ["food"], [("food",)], [[]], (), (1,), ("food",), ((),), ([],), ({},), (None, None),
        {}, {"food": 1}, {1: "food"}, set(), {"food"}, {1}, {("food", "")},
        Year(1, [("food", "")], [], []), Entry(), errors.PurseError("food"), errors.Passed(1, ("left", "food")),
        errors.Leaned([1]),
    ]
    return plain + every_entry()


def show(thing):
    """A short text of a thing for a test's message."""
    try:
        return repr(thing)[:200]
    except ValueError:
        return "something with a great int"  # Python makes no text of one


def refused(test, refusal, asked, *arguments):
    """Asked with the arguments, just this refusal comes, and none of the others."""
    with test.assertRaises(ValueError, msg=show(arguments)) as caught:
        asked(*arguments)
    found = [one for one in REFUSALS if isinstance(caught.exception, one)]
    test.assertEqual([refusal], found, show(arguments))
    test.assertIsInstance(caught.exception, errors.PurseError)
