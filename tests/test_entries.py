"""[2], [7], [8]: the seven entries, told and read back, what fits, and what is refused with NoEntry."""

import unittest

from knotpurse.entries import Entry, Give, Hold, Lessen, Move, Out, Promise, Spend, read_entry
from knotpurse.errors import NoEntry, NoHead
from knotpurse.years import Year
from things import a_year, every_entry, refused, things

MOST = 10 ** 12

# The word and the class of each, its fields in order, and fields that make one.
SEVEN = [
    ("give", Give, ["head", "coins", "note"], ["food", 5, "note"]),
    ("hold", Hold, ["head", "coins", "until", "note"], ["food", 5, 4, "note"]),
    ("move", Move, ["head", "other", "coins", "note"], ["food", "roof", 5, "note"]),
    ("spend", Spend, ["head", "coins", "note"], ["food", 5, "note"]),
    ("promise", Promise, ["word", "head", "coins", "note"], ["word", "food", 5, "note"]),
    ("lessen", Lessen, ["word", "coins", "note"], ["word", 5, "note"]),
    ("out", Out, ["word", "coins", "note"], ["word", 5, "note"]),
]

NO_WORDS = ["abcdefghi", "A", "Food", "fooD", "f1", "1", "a b", " a", "a ", " ", "a\n", "\n", "\t", "a-b", "-",
            "`", "{", "a_b"]


class Seven(unittest.TestCase):
    """Each test goes through the seven, each made by its class and read of its tuple."""

    def is_entry(self, word, made, names, fields):
        for entry in [made(*fields), read_entry((word, *fields))]:
            self.assertIs(made, type(entry))
            self.assertIsInstance(entry, Entry)
            self.assertEqual(fields, [getattr(entry, name) for name in names])
            self.assertEqual((word, *fields), entry.told())
            self.assertIs(tuple, type(entry.told()))
            self.assertEqual([type(field) for field in fields], [type(field) for field in entry.told()[1:]])

    def is_none(self, word, made, fields):
        refused(self, NoEntry, made, *fields)
        refused(self, NoEntry, read_entry, (word, *fields))

    def put(self, names, fields, name, thing):
        return [thing if one == name else field for one, field in zip(names, fields)]

    def places(self, names, among):
        return [name for name in names if name in among]

    def test_made_told_and_read(self):
        for word, made, names, fields in SEVEN:
            self.is_entry(word, made, names, fields)

    def test_notes(self):
        for word, made, names, fields in SEVEN:
            for note in ["", "a", "abcdefgh", "give", "zzzzzzzz"]:
                self.is_entry(word, made, names, self.put(names, fields, "note", note))

    def test_coins(self):
        for word, made, names, fields in SEVEN:
            for coins in [1, 2, MOST - 1, MOST]:
                self.is_entry(word, made, names, self.put(names, fields, "coins", coins))

    def test_until(self):
        for until in [2, 3, 30, 31]:
            self.is_entry("hold", Hold, SEVEN[1][2], ["food", 5, until, ""])

    def test_heads_and_words(self):
        for word, made, names, fields in SEVEN:
            for name in self.places(names, ["head", "other", "word"]):
                for text in ["a", "z", "abcdefgh", "give", "in", "right"]:
                    self.is_entry(word, made, names, self.put(names, fields, name, text))

    def test_a_word_may_be_the_heads_name(self):
        self.is_entry("promise", Promise, SEVEN[4][2], ["food", "food", 5, "food"])

    def test_coins_that_are_none(self):
        for word, made, names, fields in SEVEN:
            for coins in [0, -1, -5, MOST + 1, 10 ** 15, True, False, "5", "", None]:
                self.is_none(word, made, self.put(names, fields, "coins", coins))

    def test_until_that_is_none(self):
        for until in [1, 0, -1, 32, 33, True, False, "4", None]:
            self.is_none("hold", Hold, ["food", 5, until, ""])

    def test_texts_that_are_no_words(self):
        for word, made, names, fields in SEVEN:
            for name in self.places(names, ["head", "other", "word"]):
                for text in NO_WORDS + [""]:
                    self.is_none(word, made, self.put(names, fields, name, text))

    def test_texts_that_are_no_notes(self):
        for word, made, names, fields in SEVEN:
            for text in NO_WORDS:
                self.is_none(word, made, self.put(names, fields, "note", text))

    def test_things_in_the_place_of_each_field(self):
        for word, made, names, fields in SEVEN:
            for name in names:
                for thing in things():
                    self.is_none(word, made, self.put(names, fields, name, thing))

    def test_a_move_to_the_same_head(self):
        for head in ["a", "food", "abcdefgh"]:
            self.is_none("move", Move, [head, head, 5, ""])

    def test_fields_in_another_order(self):
        for word, made, names, fields in SEVEN:
            self.is_none(word, made, fields[1:] + fields[:1])


class ReadEntry(unittest.TestCase):
    def test_told_read_and_told_again(self):
        for entry in every_entry():
            told = entry.told()
            again = read_entry(told)
            self.assertIs(type(entry), type(again))
            self.assertEqual(told, again.told())
            self.assertEqual(told, read_entry(again.told()).told())

    def test_tuples_too_short_and_too_long(self):
        for entry in every_entry():
            told = entry.told()
            for many in range(len(told)):
                refused(self, NoEntry, read_entry, told[:many])
                refused(self, NoEntry, read_entry, told[many + 1:])
            for more in ["", "note", 5, None]:
                refused(self, NoEntry, read_entry, told + (more,))
                refused(self, NoEntry, read_entry, (more,) + told)

    def test_unknown_words(self):
        for entry in every_entry():
            told = entry.told()
            for word in ["", "take", "Give", "GIVE", "give ", " give", "giv", "gives", "entry", "food"]:
                refused(self, NoEntry, read_entry, (word,) + told[1:])
            for thing in things():
                refused(self, NoEntry, read_entry, (thing,) + told[1:])

    def test_a_word_with_the_fields_of_another(self):
        for word, others in [("give", ["hold", "move", "promise"]), ("spend", ["hold", "move", "promise"]),
                             ("lessen", ["hold", "move", "promise"]), ("out", ["hold", "move", "promise"]),
                             ("hold", ["give", "move", "spend", "promise", "lessen", "out"]),
                             ("move", ["give", "hold", "spend", "lessen", "out"]),
                             ("promise", ["give", "hold", "spend", "lessen", "out"])]:
            for entry in every_entry():
                told = entry.told()
                if told[0] in others:
                    refused(self, NoEntry, read_entry, (word,) + told[1:])

    def test_lists_and_entries_are_no_tuples(self):
        for entry in every_entry():
            refused(self, NoEntry, read_entry, list(entry.told()))
            refused(self, NoEntry, read_entry, entry)
            refused(self, NoEntry, read_entry, (entry.told(),))
            refused(self, NoEntry, read_entry, dict.fromkeys(entry.told()))

    def test_things(self):
        for thing in things() + ["give", "give food 5 -", ("give",)]:
            refused(self, NoEntry, read_entry, thing)

    def test_what_is_handed_in_is_unchanged(self):
        told, wrong = ["give", "food", 5, "note"], [("give", "food", [5], "note")]
        refused(self, NoEntry, read_entry, told)
        refused(self, NoEntry, read_entry, wrong[0])
        self.assertEqual((["give", "food", 5, "note"], [("give", "food", [5], "note")]), (told, wrong))


class Alike(unittest.TestCase):
    def test_alike_where_their_told_are(self):
        self.assertEqual(Give("food", 5, "").told(), Give("food", 5, "").told())
        told = [entry.told() for entry in every_entry()]
        self.assertEqual(len(told), len(set(told)))

    def test_asked_again_the_same_is_told(self):
        entries, year = every_entry(), a_year()
        first = [(entry.told(), entry.fits(year, 3)) for entry in entries]
        other = Year(1, [("other", "")], [], [])
        for entry in entries:
            entry.fits(other, 1)
            refused(self, NoEntry, read_entry, entry)
        self.assertEqual(first, [(entry.told(), entry.fits(year, 3)) for entry in entries])


class EntryByItself(unittest.TestCase):
    def test_it_is_none(self):
        self.assertEqual((), Entry().told())
        refused(self, NoEntry, read_entry, Entry().told())
        refused(self, NoEntry, read_entry, Entry())

    def test_it_fits_no_year(self):
        self.assertIs(False, Entry().fits(a_year(), 1))


class Fits(unittest.TestCase):
    def test_heads_of_the_year(self):
        year = a_year()
        for date in [1, 5, 10]:
            for name in year.names():
                for entry in [Give(name, 5, ""), Hold(name, 5, 11, ""), Spend(name, 5, ""),
                              Promise("word", name, 5, "")]:
                    self.assertIs(True, entry.fits(year, date))
        self.assertIs(True, Move("food", "roof", 5, "").fits(year, 1))

    def test_heads_that_are_not_the_years(self):
        year = a_year()
        for name in ["none", "foo", "foods", "ood", "f", "l", "word"]:
            for entry in [Give(name, 5, ""), Hold(name, 5, 4, ""), Spend(name, 5, ""), Promise("word", name, 5, ""),
                          Promise("food", name, 5, ""), Move(name, "food", 5, ""), Move("food", name, 5, ""),
                          Move(name, "other", 5, "")]:
                self.assertIs(False, entry.fits(year, 1), entry.told())

    def test_a_word_or_a_note_needs_no_head(self):
        year = a_year()
        for entry in [Lessen("none", 5, ""), Out("none", 5, ""), Give("food", 5, "none"),
                      Promise("none", "food", 5, "none")]:
            for date in [1, 10]:
                self.assertIs(True, entry.fits(year, date))

    def test_until_of_a_hold(self):
        year = a_year()
        for date, until, fits in [(4, 3, False), (4, 4, False), (4, 5, True), (4, 10, True), (4, 11, True),
                                  (4, 12, False), (4, 31, False), (1, 2, True), (2, 2, False), (10, 10, False),
                                  (10, 11, True), (10, 12, False)]:
            self.assertIs(fits, Hold("food", 5, until, "").fits(year, date), (date, until))

    def test_until_of_a_hold_in_the_shortest_and_the_longest_year(self):
        short, long = Year(1, [("food", "")], [], []), Year(30, [("food", "")], [], [])
        self.assertIs(True, Hold("food", 5, 2, "").fits(short, 1))
        self.assertIs(False, Hold("food", 5, 3, "").fits(short, 1))
        self.assertIs(True, Hold("food", 5, 31, "").fits(long, 30))
        self.assertIs(True, Hold("food", 5, 31, "").fits(long, 1))
        self.assertIs(False, Hold("food", 5, 30, "").fits(long, 30))

    def test_a_hold_of_no_head_of_the_year(self):
        self.assertIs(False, Hold("none", 5, 5, "").fits(a_year(), 4))

    def test_until_of_rules_and_coins_do_not_matter(self):
        self.assertIs(True, Spend("roof", MOST, "").fits(a_year(), 1))

    def test_the_year_is_unchanged(self):
        year = a_year()
        for entry in every_entry():
            entry.fits(year, 3)
        self.assertEqual((a_year().heads, a_year().limits, a_year().rules), (year.heads, year.limits, year.rules))
        refused(self, NoHead, year.above, "word")


if __name__ == "__main__":
    unittest.main()
