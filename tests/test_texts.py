"""[2], [27], [28]: years and lines as texts, and what is the text of none."""

import collections
import random
import unittest

import patterns
from draws import drawn_book, drawn_year
from knotpurse.books import Book
from knotpurse.entries import Give, Promise, Spend
from knotpurse.errors import NoText
from knotpurse.texts import lines_text, read_lines, read_year, year_text
from knotpurse.years import Year
from things import HEADS, LIMITS, RULES, a_year, every_entry, refused, things

YEAR = ("year 10\nhead all\nhead food in all\nhead fish in food\nhead bread in food\nhead roof in all\nhead gifts\n"
        "limit food 2 5 100\nlimit all 1 10 0\nrule fish 1 2 5\nrule fish 1 3 11\nrule roof 1 1 2\n")
ROWS = [row + "\n" for row in YEAR[:-1].split("\n")]

LINES = [("in", 2, 1, ("give", "food", 100, "")), ("in", 2, 2, ("hold", "food", 5, 4, "note")),
         ("right", 4, 1, 3, ("spend", "food", 6, "")), ("back", 7, 2),
         ("in", 7, 7, ("promise", "a", "food", 5, "abcdefgh")), ("in", 7, 7, ("lessen", "a", 1, "")),
         ("right", 8, 5, 7, ("out", "a", 2, "x")), ("in", 10, 9, ("move", "food", "roof", 10 ** 12, ""))]
TEXT = ("in 2 1 give food 100 -\nin 2 2 hold food 5 4 note\nright 4 1 3 spend food 6 -\nback 7 2\n"
        "in 7 7 promise a food 5 abcdefgh\nin 7 7 lessen a 1 -\nright 8 5 7 out a 2 x\n"
        "in 10 9 move food roof 1000000000000 -\n")


def fields(year):
    return (year.days, year.heads, year.limits, year.rules)


class Years(unittest.TestCase):
    """[27]"""

    def test_written_and_read(self):
        self.assertEqual(YEAR, year_text(a_year()))
        self.assertEqual((10, HEADS, LIMITS, RULES), fields(read_year(YEAR)))
        self.assertEqual([Year, str], [type(read_year(YEAR)), type(year_text(a_year()))])

    def test_the_least_and_the_greatest(self):
        self.assertEqual("year 1\nhead a\n", year_text(Year(1, [("a", "")], [], [])))
        self.assertEqual((1, [("a", "")], [], []), fields(read_year("year 1\nhead a\n")))
        names = ["abcdefgh", "b", "c", "d", "e", "f", "g", "h"]
        heads = [(name, names[at - 1] if at else "") for at, name in enumerate(names)]
        limits = [("h", 1, 30, 10 ** 15)] * 3 + [("b", 30, 30, 0)] * 3
        rules = [("b", 1, 1000, 31), ("b", 999, 1000, 2), ("c", 0, 1, 31), ("c", 1000, 1000, 31)]
        year = Year(30, heads, limits, rules)
        self.assertEqual((30, heads, limits, rules), fields(read_year(year_text(year))))
        self.assertIn("limit h 1 30 1000000000000000\n", year_text(year))

    def test_heads_called_as_the_words_of_rows(self):
        for heads in [[("in", "")], [("in", ""), ("head", "in")], [("year", ""), ("in", "year"), ("limit", "in")],
                      [("head", ""), ("rule", "head"), ("in", "rule")]]:
            year = Year(3, heads, [(heads[-1][0], 1, 2, 3)], [(heads[0][0], 1, 2, 3)])
            self.assertEqual(fields(year), fields(read_year(year_text(year))))
        self.assertEqual("year 3\nhead in\nhead head in in\n", year_text(Year(3, [("in", ""), ("head", "in")], [], [])))

    def test_limits_without_rules_and_rules_without_limits(self):
        for text in ["".join(ROWS[:9]), "".join(ROWS[:7] + ROWS[9:]), "".join(ROWS[:7])]:
            self.assertEqual(text, year_text(read_year(text)))

    def test_rows_of_one_kind_in_another_order_make_another_year(self):
        text = "".join(ROWS[:7] + [ROWS[8], ROWS[7]] + ROWS[:8:-1])
        self.assertEqual((10, HEADS, LIMITS[::-1], RULES[::-1]), fields(read_year(text)))

    def test_rows_in_no_order(self):
        for at in range(1, len(ROWS)):
            refused(self, NoText, read_year, "".join(ROWS[1:at + 1] + ROWS[:1] + ROWS[at + 1:]))
            refused(self, NoText, read_year, "".join(ROWS[:at] + ROWS[:1] + ROWS[at:]))
        for at in range(1, 7):
            refused(self, NoText, read_year, "".join(ROWS[:at] + ROWS[at:at + 1] + ROWS[at:]))
        for ahead, behind in [(0, 1), (6, 7), (8, 9), (0, 11)]:
            rows = list(ROWS)
            rows[ahead], rows[behind] = rows[behind], rows[ahead]
            refused(self, NoText, read_year, "".join(rows))

    def test_other_texts(self):
        for text in ["", "\n", " ", "year", "year 10", "year 10\n", "head all\n", YEAR[:-1], YEAR + "\n", "\n" + YEAR,
                     YEAR + " ", " " + YEAR, YEAR + YEAR, ROWS[0] + YEAR, YEAR + ROWS[0], YEAR + "more\n",
                     YEAR.replace("\n", "\n\n", 1), YEAR.replace("\n", "\t\n", 1), YEAR.replace("\n", " \n", 1),
                     YEAR.replace("\n", "\n ", 1), YEAR.replace(" ", "  ", 1), YEAR.replace(" ", "\t", 1),
                     YEAR.upper(), YEAR.title(), YEAR.replace("\n", ""), YEAR.replace("\n", " ")]:
            refused(self, NoText, read_year, text)

    def test_rows_that_are_nearly_good(self):
        for row in ["year 010", "year +10", "year -1", "year 1_0", "year 10.0", "year ten", "year", "year 10 10",
                    "Year 10", "year  10", "years 10", "year 0", "year 31", "year 00", "year 10000000000000000"]:
            refused(self, NoText, read_year, row + "\n" + "".join(ROWS[1:]))
        for row in ["head", "head ", "head food all", "head food in", "head food in ", "head food  all",
                    "head food in  all", "head food in all ", "head food on all", "head food in all all",
                    "head food in none", "head food in food", "head all", "head Food in all", "head food in All",
                    "head food1 in all", "head abcdefghi in all", "head food\tin all", "heads food in all", "head in all"]:
            refused(self, NoText, read_year, "".join(ROWS[:2]) + row + "\n" + "".join(ROWS[3:]))
        for row in ["limit food 2 5", "limit food 2 5 100 1", "limit food 02 5 100", "limit food 2 5 0100",
                    "limit food 5 2 100", "limit food 2 11 100", "limit food 0 5 100", "limit foods 2 5 100",
                    "limit food 2 5 -1", "limit food 2 5 1000000000000001", "limit food 2 5 00", "limit food 2  5 100",
                    "limit food 2 5 100 ", "limit 2 5 100", "limit  2 5 100", "limit food 2 5 10000000000000000",
                    "limit 5 2 5 100", "limit food food 5 100", "limit"]:
            refused(self, NoText, read_year, "".join(ROWS[:7]) + row + "\n" + "".join(ROWS[8:]))
        for row in ["rule fish 1 2", "rule fish 1 2 5 5", "rule fish 01 2 5", "rule fish 3 2 5", "rule fish 1 0 5",
                    "rule fish 1 1001 5", "rule fish 1 2 1", "rule fish 1 2 12", "rule fishes 1 2 5",
                    "rule fish 1 1 5", "rule fish 1 2 5 ", "rule", "rule fish 1  2 5", "rules fish 1 2 5"]:
            refused(self, NoText, read_year, "".join(ROWS[:9]) + row + "\n" + "".join(ROWS[10:]))

    def test_too_many(self):
        heads = "".join([f"head {name}\n" for name in "abcdefgh"])
        good = "year 5\n" + heads + "limit a 1 1 1\n" * 6 + "rule a 1 4 2\n" * 4
        self.assertEqual(good, year_text(read_year(good)))
        refused(self, NoText, read_year, "year 5\n" + heads + "head i\n")
        refused(self, NoText, read_year, "year 5\n" + heads + "limit a 1 1 1\n" * 7)
        refused(self, NoText, read_year, "year 5\n" + heads + "rule a 1 5 2\n" * 5)
        refused(self, NoText, read_year, "year 5\n" + heads + "rule a 1 3 2\n" * 4)

    def test_anything_else(self):
        for thing in things() + [YEAR.encode(), [YEAR], (YEAR,), {YEAR: 1}, {YEAR}, 10 ** 20]:
            refused(self, NoText, read_year, thing)
            if not isinstance(thing, Year):
                refused(self, NoText, year_text, thing)
        refused(self, NoText, year_text, YEAR)

    def test_great_numbers(self):
        for figures in [16, 17, 5000]:
            refused(self, NoText, read_year, "year " + "9" * figures + "\nhead a\n")
            refused(self, NoText, read_year, "year 9\nhead a\nlimit a 1 1 " + "9" * figures + "\n")

    def test_the_year_is_its_own(self):
        one, other = read_year(YEAR), read_year(YEAR)
        self.assertIsNot(one, other)
        self.assertIsNot(one.heads, other.heads)
        year = a_year()
        year_text(year)
        self.assertEqual((10, HEADS, LIMITS, RULES), fields(year))

    def test_spoiled_texts(self):
        draw, seen = random.Random(27), collections.Counter()
        for many in range(3000):
            text = patterns.spoiled(draw, year_text(drawn_year(draw)))
            found = patterns.year_of(text)
            seen[found is None] += 1
            if found is None:
                refused(self, NoText, read_year, text)
            else:
                self.assertEqual(found, fields(read_year(text)))
                self.assertEqual(text, year_text(read_year(text)))
        self.assertLess(500, min(seen.values()))


class Lines(unittest.TestCase):
    """[28]"""

    def test_written_and_read(self):
        self.assertEqual(TEXT, lines_text(LINES))
        self.assertEqual(LINES, read_lines(TEXT))

    def test_kinds(self):
        self.assertIs(list, type(read_lines(TEXT)))
        for line in read_lines(TEXT):
            kinds = {"in": [str, int, int, tuple], "back": [str, int, int], "right": [str, int, int, int, tuple]}
            self.assertEqual([tuple] + kinds[line[0]], [type(one) for one in (line, *line)])

    def test_no_lines(self):
        self.assertEqual("", lines_text([]))
        self.assertEqual([], read_lines(""))
        refused(self, NoText, read_lines, "\n")
        refused(self, NoText, read_lines, " ")

    def test_each_entry_in_both_lines(self):
        for entry in every_entry():
            told = entry.told()
            words = " ".join([str(one) for one in told[:-1]] + [told[-1] or "-"])
            for line, text in [(("in", 3, 2, told), "in 3 2 "), (("right", 3, 4, 2, told), "right 3 4 2 ")]:
                self.assertEqual(text + words + "\n", lines_text([line]))
                self.assertEqual([line], read_lines(text + words + "\n"))

    def test_numbers_whatever_they_are(self):
        told = ("give", "food", 5, "")
        for number in [0, 1, 9, 10, 31, 41, 10 ** 15, 10 ** 16 - 1]:
            lines = [("in", number, 1, told), ("in", 1, number, told), ("back", number, 1), ("back", 1, number),
                     ("right", number, 1, 1, told), ("right", 1, number, 1, told), ("right", 1, 1, number, told)]
            self.assertEqual(lines, read_lines(lines_text(lines)))
            self.assertEqual(f"in {number} 1 give food 5 -\n", lines_text(lines[:1]))
        for number in ["00", "01", "0" * 16, "1" * 17, "10000000000000000", "1" * 5000, "-1", "-0", "+1", "1_0", "1.0",
                       "", " ", "a", "-", "\t1", "1\t", "0x1"]:
            for text in [f"in {number} 1 give food 5 -\n", f"in 1 {number} give food 5 -\n", f"back {number} 1\n",
                         f"back 1 {number}\n", f"right {number} 1 1 give food 5 -\n",
                         f"right 1 {number} 1 give food 5 -\n", f"right 1 1 {number} give food 5 -\n",
                         f"in 1 1 give food {number} -\n", f"in 1 1 hold food 5 {number} -\n"]:
                refused(self, NoText, read_lines, text)
                refused(self, NoText, read_lines, TEXT + text)

    def test_a_told_that_is_no_entrys(self):
        for words in ["give food 0 -", "give food 1000000000001 -", "give food 5", "give food 5 - -", "give food 5 --",
                      "give food 5 Note", "give food 5 notenotes", "give Food 5 -", "give - 5 -", "give food - -",
                      "give food five -", "give 5 food -", "give food 5 5", "hold food 5 1 -", "hold food 5 32 -",
                      "hold food 5 -", "move food food 5 -", "move food 5 -", "spend food roof 5 -", "promise a 5 -",
                      "promise food 5 -", "lessen a food 5 -", "out a -", "keep food 5 -", "Give food 5 -", "-", "",
                      "give", "give food 5 1", "promise - food 5 -", "promise a - 5 -", "give foodfoods 5 -", "in", "food"]:
            for start in ["in 1 1 ", "right 1 1 1 "]:
                refused(self, NoText, read_lines, start + words + "\n")
                refused(self, NoText, read_lines, (start + words).strip() + "\n")

    def test_other_texts(self):
        for text in [TEXT[:-1], TEXT + "\n", "\n" + TEXT, TEXT + " ", " " + TEXT, TEXT.replace("\n", "\n\n", 1),
                     TEXT.replace(" ", "  ", 1), TEXT.replace("\n", " \n", 1), TEXT.replace("\n", "\n ", 1),
                     TEXT.replace(" ", "\t", 1), TEXT.replace("\n", "\t\n", 1), TEXT.upper(), TEXT.title(),
                     TEXT.replace("\n", " "), TEXT.replace("\n", ""), "back 1\n", "back 1 1 1\n", "back\n", "in\n",
                     "in 1 1\n", "right 1 1 1\n", "in 1 give food 5 -\n", "right 1 1 give food 5 -\n",
                     "in 1 1 1 give food 5 -\n", "back 1 1 give food 5 -\n", "back 1 1 \n", "back 1 1", "Back 1 1\n",
                     "in 1 1 give food 5 \n", "in 1 1 give food 5  \n", "in 1 1 give food 5 - \n", "live\n", YEAR]:
            refused(self, NoText, read_lines, text)

    def test_words_called_as_the_words_of_rows(self):
        lines = [("in", 1, 1, ("give", "in", 5, "back")), ("right", 1, 0, 1, ("promise", "give", "right", 5, "in"))]
        self.assertEqual("in 1 1 give in 5 back\nright 1 0 1 promise give right 5 in\n", lines_text(lines))
        self.assertEqual(lines, read_lines(lines_text(lines)))

    def test_forty_lines_and_more(self):
        for many in [40, 41, 500]:
            lines = [("in", 1, 1, ("give", "food", 5, ""))] * many
            self.assertEqual(lines, read_lines(lines_text(lines)))

    def test_anything_else(self):
        for thing in things() + [TEXT.encode(), [TEXT], (TEXT,), {TEXT: 1}, {TEXT}, LINES]:
            refused(self, NoText, read_lines, thing)

    def test_lines_of_which_there_is_no_text(self):
        told = ("give", "food", 5, "")
        for line in [("in", 1, 1), ("in", 1, 1, told, 1), ("in", 1, 1, list(told)), ("in", 1, 1, ()), ("back", 1),
                     ("back", 1, 1, 1), ("right", 1, 1, told), ("in", True, 1, told), ("in", 1, False, told),
                     ("in", -1, 1, told), ("in", 10 ** 16, 1, told), ("back", 1, -1), ("back", 1, True),
                     ("back", 1, 10 ** 5000), ("back", "1", 1), ["back", 1, 1], ("Back", 1, 1), ("", 1, 1),
                     ("in", 1, 1, ("give", "food", 0, "")), ("in", 1, 1, ("give", "food", 5, "-")),
                     ("in", 1, 1, Give("food", 5, "")), "back 1 1"] + things():
            refused(self, NoText, lines_text, [line])
            refused(self, NoText, lines_text, LINES + [line])
        for thing in things() + [tuple(LINES), TEXT]:
            if not (isinstance(thing, list) and thing == []):
                refused(self, NoText, lines_text, thing)

    def test_lists_are_the_askers_own(self):
        lines = list(LINES)
        lines_text(lines)
        self.assertEqual(LINES, lines)
        told = read_lines(TEXT)
        told.clear()
        self.assertEqual(LINES, read_lines(TEXT))

    def test_a_books_lines(self):
        book = Book(a_year())
        book.enter(1, 1, Give("gifts", 5, ""))
        book.enter(2, 1, Promise("a", "gifts", 3, "x"))
        book.back(3, 1)
        book.right(4, 0, 4, Give("gifts", 7, ""))
        self.assertEqual("in 1 1 give gifts 5 -\nin 2 1 promise a gifts 3 x\nback 3 1\nright 4 0 4 give gifts 7 -\n",
                         lines_text(book.lines()))
        before = lines_text(book.lines())
        book.enter(5, 5, Spend("gifts", 1, ""))
        self.assertEqual(before + "in 5 5 spend gifts 1 -\n", lines_text(book.lines()))

    def test_spoiled_texts(self):
        draw, seen = random.Random(28), collections.Counter()
        for many in range(3000):
            rows = lines_text(drawn_book(draw, drawn_year(draw, 4, 2), 3).lines()) if many % 20 == 0 else TEXT
            text = patterns.spoiled(draw, "".join(draw.sample(rows.splitlines(True), min(4, rows.count("\n")))))
            found = patterns.lines_of(text)
            seen[found is None] += 1
            if found is None:
                refused(self, NoText, read_lines, text)
            else:
                self.assertEqual(found, read_lines(text))
                self.assertEqual(text, lines_text(found))
        self.assertLess(500, min(seen.values()))


if __name__ == "__main__":
    unittest.main()
