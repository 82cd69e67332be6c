"""[2], [29]: lists of lines judged, and books held against one another."""

import unittest

from knotpurse.books import Book
from knotpurse.entries import Give, Hold, Lessen, Move, Out, Promise, Spend
from knotpurse.judging import alike_books, judged
from knotpurse.texts import lines_text, read_lines
from knotpurse.years import Year
from things import HEADS, book_of, things, told_by

LIMITS = [("food", 2, 5, 100), ("all", 1, 9, 300)]
RULES = [("fish", 1, 2, 5), ("roof", 1, 3, 9)]
LINES = [("in", 2, 1, ("give", "food", 100, "")), ("in", 2, 2, ("promise", "a", "food", 20, "")),
         ("in", 5, 3, ("out", "a", 25, "x")), ("right", 5, 0, 1, ("give", "food", 80, "")),
         ("in", 7, 6, ("give", "roof", 11, "")), ("back", 7, 2), ("in", 8, 8, ("hold", "food", 5, 11, "")),
         ("in", 9, 1, ("move", "food", "fish", 5, "")), ("in", 9, 9, ("lessen", "a", 20, "")),
         ("in", 9, 9, ("spend", "fish", 5, ""))]


def a_year(days=10, heads=HEADS, limits=LIMITS, rules=RULES):
    return Year(days, list(heads), list(limits), list(rules))


class Judged(unittest.TestCase):
    def is_book(self, lines):
        kind, book = judged(a_year(), lines)
        self.assertEqual(("book", lines), (kind, book.lines()))
        self.assertIs(Book, type(book))
        return book

    def wrong(self, at, lines):
        told = judged(a_year(), lines)
        self.assertEqual(("wrong", at), told, lines)
        self.assertEqual([tuple, str, int], [type(one) for one in (told, *told)])

    def put(self, at, line):
        """The lines with another one in this place."""
        return LINES[:at] + [line] + LINES[at + 1:]

    def test_a_book(self):
        book = self.is_book(list(LINES))
        self.assertIs(tuple, type(judged(a_year(), list(LINES))))
        self.assertEqual([1, 3, 4, 5, 6, 7, 8], [row[0] for row in book.live()])
        self.assertEqual((10, HEADS), (book.year.days, book.year.heads))
        self.assertEqual((9, None), book.enter(10, 10, Give("gifts", 1, "")))

    def test_no_lines_and_each_beginning(self):
        for many in range(len(LINES) + 1):
            self.is_book(LINES[:many])

    def is_judged(self, wrong, lines):
        """At this number wrong, or a book where there is none."""
        if wrong is None:
            self.is_book(lines)
        else:
            self.wrong(wrong, lines)

    def test_a_line_left_out(self):
        for at, wrong in enumerate([0, 1, 4, None, None, 7, None, 8, None, None]):
            self.is_judged(wrong, LINES[:at] + LINES[at + 1:])

    def test_a_line_told_twice(self):
        for at, wrong in enumerate([6, 2, 9, 4, None, 6, None, None, 9, 10]):
            self.is_judged(wrong, LINES[:at + 1] + LINES[at:])

    def test_lines_exchanged(self):
        for at, wrong in enumerate([0, 1, 5, 4, None, 6, 7, None, None]):
            self.is_judged(wrong, LINES[:at] + [LINES[at + 1], LINES[at]] + LINES[at + 2:])

    def test_a_line_put_otherwise(self):
        for at, line in [(0, ("in", 2, 3, LINES[0][3])), (0, ("in", 0, 0, LINES[0][3])), (0, ("in", 11, 1, LINES[0][3])),
                         (1, ("in", 1, 1, LINES[1][3])), (1, ("in", 2, 2, ("promise", "a", "food", 101, ""))),
                         (2, ("in", 5, 3, ("out", "b", 25, ""))), (3, ("right", 5, 3, 1, LINES[3][4])),
                         (3, ("right", 5, 1, 3, LINES[3][4])), (4, ("in", 7, 6, ("give", "none", 11, ""))),
                         (5, ("back", 7, 0)), (5, ("back", 7, 1)), (5, ("back", 7, 5)), (5, ("back", 4, 2)),
                         (6, ("in", 8, 8, ("hold", "food", 5, 8, ""))), (6, ("in", 8, 8, ("hold", "food", 5, 12, ""))),
                         (9, ("in", 9, 9, ("spend", "fish", 6, "")))]:
            self.wrong(at, self.put(at, line))

    def test_no_lines_at_all(self):
        told = LINES[0][3]
        for line in [("in", 2, 1), ("in", 2, 1, told, ""), ("in", 2, told), ["in", 2, 1, told], ("in", 2, 1, list(told)),
                     ("in", 2, 1, Give("food", 100, "")), ("in", 2, 1, told[:3]), ("in", 2, 1, (*told, "")),
                     ("in", 2, 1, ("give", "food", 0, "")), ("in", 2, 1, ("give", "food", True, "")),
                     ("in", 2, True, told), ("in", True, 1, told), ("in", "2", 1, told), ("in", 2, None, told),
                     ("out", 2, 1, told), ("enter", 2, 1, told), ("right", 2, 1, told), ("back", 2, 1, told), (),
                     ("in",), "in 2 1 give food 100 -", ("In", 2, 1, told), (("in", 2, 1, told),)]:
            self.wrong(0, [line])
            self.wrong(0, self.put(0, line))
            self.wrong(4, self.put(4, line))
        for line in [("back", 7, False), ("back", 7, "2"), ("back", True, 2), ("back", 7), ("back", 7, 2, 2),
                     ("back", 7, (2,)), ("back", 7, [2]), ("back", 7, {2}), ("back", 7, 10 ** 5000), ["back", 7, 2]]:
            self.wrong(5, self.put(5, line))
        for line in [("right", 5, False, 1, LINES[3][4]), ("right", 5, 0, True, LINES[3][4]),
                     ("right", 5, 0, 1, LINES[3][4], 1), ("right", 5, 0, 1, list(LINES[3][4])), ("right", 5, 0, 1)]:
            self.wrong(3, self.put(3, line))

    def test_anything(self):
        for thing in things():
            self.wrong(0, [thing])
            self.wrong(10, LINES + [thing])
            self.wrong(10, LINES + [thing] + LINES)
            for line in [("in", thing, 1, LINES[0][3]), ("in", 2, thing, LINES[0][3]), ("in", 2, 1, thing),
                         (thing, 2, 1, LINES[0][3])]:
                self.wrong(0, [line])
            for line in [("back", thing, 1), ("back", 9, thing), ("right", thing, 1, 1, LINES[0][3]),
                         ("right", 9, thing, 9, LINES[0][3]), ("right", 9, 5, thing, LINES[0][3]),
                         ("right", 9, 5, 9, thing)]:
                self.wrong(10, LINES + [line])

    def test_forty_and_one(self):
        line = ("in", 1, 1, ("give", "food", 1, ""))
        self.is_book([line] * 40)
        self.wrong(40, [line] * 41)
        self.wrong(40, [line] * 40 + [("back", 1, 0)])
        self.wrong(40, [line] * 40 + [None])
        self.wrong(40, [line] * 100)

    def test_the_first_wrong_one(self):
        self.wrong(1, [LINES[0], None, LINES[2], None])
        self.wrong(0, [("back", 1, 0), None])

    def test_another_year(self):
        self.assertEqual(("wrong", 4), judged(a_year(6, limits=[], rules=[]), LINES))
        self.assertEqual(("wrong", 6), judged(a_year(9), LINES))
        self.assertEqual(("wrong", 7), judged(a_year(heads=HEADS[:2] + HEADS[4:], rules=[]), LINES))
        self.assertEqual(("wrong", 1), judged(a_year(limits=[("food", 1, 9, 19)]), LINES))

    def test_the_list_is_unchanged_and_not_kept(self):
        lines = list(LINES)
        book = judged(a_year(), lines)[1]
        self.assertEqual(LINES, lines)
        before = told_by(book)
        lines.clear()
        self.assertEqual(before, told_by(book))
        book.lines().clear()
        self.assertEqual(LINES, book.lines())

    def test_asked_again(self):
        one, other = judged(a_year(), LINES)[1], judged(a_year(), LINES)[1]
        self.assertIsNot(one, other)
        before = told_by(other)
        one.enter(10, 10, Give("food", 1, ""))
        self.assertEqual(before, told_by(other))
        self.assertEqual(before, told_by(judged(a_year(), LINES)[1]))

    def test_by_its_text(self):
        self.assertEqual(LINES, judged(a_year(), read_lines(lines_text(LINES)))[1].lines())
        self.assertEqual(("wrong", 0), judged(a_year(), read_lines("in 9999999999999999 0 give food 1 -\n")))


class Alike(unittest.TestCase):
    def of(self, *rows, year=None):
        return book_of(year or a_year(), *rows)

    def test_alike(self):
        book = judged(a_year(), LINES)[1]
        for other in [book, book.twin(), judged(a_year(), LINES)[1], judged(a_year(), book.lines())[1]]:
            self.assertEqual(("alike", None), alike_books(book, other))
            self.assertEqual(("alike", None), alike_books(other, book))
        self.assertEqual(("alike", None), alike_books(Book(a_year()), Book(a_year())))
        self.assertIs(tuple, type(alike_books(book, book)))

    def test_alike_by_the_live_entries_alone(self):
        one = self.of((1, 1, Give("food", 9, "")), (2, 2, Spend("food", 3, "")))
        other = self.of((3, 1, Give("food", 5, "x")), (4, 1, Give("food", 4, "")), (5, 5, Spend("food", 1, "")))
        other.right(6, 2, 2, Spend("food", 3, ""))
        other.enter(7, 7, Give("gifts", 4, ""))
        other.back(7, 4)
        self.assertEqual(("alike", None), alike_books(one, other))

    def test_promises_of_other_words_are_alike(self):
        one = self.of((1, 1, Give("food", 9, "")), (2, 2, Promise("a", "food", 3, "")), (2, 2, Promise("b", "food", 3, "")))
        other = self.of((1, 1, Give("food", 9, "")), (2, 2, Promise("c", "food", 6, "")))
        self.assertEqual(("alike", None), alike_books(one, other))

    def test_years(self):
        book = Book(a_year())
        others = [a_year(9), a_year(11), a_year(heads=HEADS[:5]), a_year(heads=[*HEADS, ("more", "")]),
                  a_year(heads=HEADS[:4] + [HEADS[5], HEADS[4]]), a_year(heads=HEADS[:4] + [("roof", ""), HEADS[5]]),
                  a_year(limits=LIMITS[:1]), a_year(limits=LIMITS[::-1]), a_year(limits=LIMITS + LIMITS[:1]),
                  a_year(limits=[LIMITS[0], ("all", 1, 9, 301)]), a_year(limits=[LIMITS[0], ("all", 2, 9, 300)]),
                  a_year(rules=RULES[1:]), a_year(rules=RULES[::-1]), a_year(rules=[RULES[0], ("roof", 2, 6, 9)]),
                  a_year(rules=[RULES[0], ("roof", 1, 3, 10)]), a_year(limits=[], rules=[])]
        for year in others:
            self.assertEqual(("years", None), alike_books(book, Book(year)))
            self.assertEqual(("years", None), alike_books(Book(year), book))
            self.assertEqual(("alike", None), alike_books(Book(year), Book(year)))

    def test_years_ahead_of_sums(self):
        self.assertEqual(("years", None), alike_books(Book(a_year()), self.of((1, 1, Give("food", 1, "")), year=a_year(9))))

    def unlike(self, place, one, other):
        self.assertEqual(("unlike", place), alike_books(one, other))
        self.assertEqual(("unlike", place), alike_books(other, one))
        told = alike_books(one, other)
        self.assertEqual([tuple, tuple, int, str, str], [type(one) for one in (told, told[1], *told[1])])

    def test_each_of_the_six(self):
        rows = [(3, 1, Give("food", 50, "")), (3, 1, Give("roof", 50, "")), (3, 1, Promise("a", "food", 9, ""))]
        for more, others, place in [
                ([Give("food", 1, "")], [], (4, "food", "given")), ([Move("roof", "food", 1, "")], [], (4, "food", "moved")),
                ([Spend("food", 1, "")], [], (4, "food", "spent")), ([Lessen("a", 1, "")], [], (4, "food", "promised")),
                ([Hold("food", 1, 6, "")], [], (4, "food", "held")), ([Out("a", 1, "")], [], (4, "food", "spent")),
                ([Promise("b", "food", 1, "")], [Hold("food", 1, 11, "")], (4, "food", "promised")),
                ([Spend("food", 1, "")], [Hold("food", 1, 11, "")], (4, "food", "spent"))]:
            self.unlike(place, self.of(*rows, *[(4, 4, entry) for entry in more]),
                        self.of(*rows, *[(4, 4, entry) for entry in others]))

    def test_a_hold_that_ends(self):
        rows = [(3, 1, Give("food", 50, ""))]
        self.unlike((6, "food", "held"), self.of(*rows, (3, 2, Hold("food", 5, 6, ""))),
                    self.of(*rows, (3, 2, Hold("food", 5, 9, ""))))

    def test_the_first_date_ahead_of_heads(self):
        one = self.of((9, 8, Give("all", 1, "")), (9, 7, Give("gifts", 1, "")))
        self.unlike((7, "gifts", "given"), one, Book(a_year()))
        self.unlike((8, "all", "given"), one, self.of((9, 7, Give("gifts", 1, ""))))
        self.unlike((10, "roof", "given"), Book(a_year()), self.of((10, 10, Give("roof", 1, ""))))

    def test_the_first_head_ahead_of_sums(self):
        rows = [(1, 1, Give("food", 9, ""))]
        one = self.of(*rows, (2, 2, Spend("food", 1, "")), (2, 2, Give("roof", 1, "")), (2, 2, Give("fish", 4, "")))
        self.unlike((2, "food", "spent"), one, self.of(*rows))
        one.back(3, 1)
        self.unlike((2, "fish", "given"), one, self.of(*rows))

    def test_a_move_between_two_heads(self):
        one = self.of((1, 1, Give("gifts", 9, "")), (2, 2, Move("gifts", "bread", 1, "")))
        self.unlike((2, "bread", "moved"), one, self.of((1, 1, Give("gifts", 9, ""))))

    def test_the_books_are_unchanged(self):
        one, other = judged(a_year(), LINES)[1], self.of((1, 1, Give("food", 9, "")))
        before = (told_by(one), told_by(other))
        first = alike_books(one, other)
        self.assertEqual(("unlike", (1, "food", "given")), first)
        self.assertEqual(before, (told_by(one), told_by(other)))
        self.assertEqual(first, alike_books(one, other))
        other.enter(2, 1, Give("food", 71, ""))
        self.assertEqual(("unlike", (1, "food", "moved")), alike_books(one, other))


if __name__ == "__main__":
    unittest.main()
