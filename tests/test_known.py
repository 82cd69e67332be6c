"""[2], [20] to [22]: what was known on each day, lines, live and late, and twins."""

import unittest

from knotpurse.books import Book
from knotpurse.dated import Dated
from knotpurse.entries import Give, Hold, Lessen, Move, Out, Promise, Spend
from knotpurse.errors import NoDay, NoHead, NoPromise, Passed
from knotpurse.years import Year
from things import (HEADS, NAMES, NEARLY, SIX, a_year, all_sums, book_of, is_nought, leaned, passed, refused, things,
                    told_by)


def a_book():
    """Lines of days 2, 2, 5, 5, 7 and 7: late ones, a right on day 5, a back on day 7."""
    book = book_of(Year(10, HEADS, [("food", 1, 10, 90)], [("roof", 1, 2, 6)]),
                   (2, 1, Give("food", 100, "")), (2, 2, Promise("a", "food", 20, "")))
    book.enter(5, 3, Out("a", 25, ""))
    book.right(5, 0, 1, Give("food", 80, ""))
    book.enter(7, 6, Give("roof", 11, ""))
    book.back(7, 2)
    return book


class Known(unittest.TestCase):
    """[20]: known"""

    def test_each_day(self):
        book = a_book()
        found = [book.known(day) for day in range(11)]
        self.assertEqual([0, 0, 100, 100, 100, 80, 80, 80, 80, 80, 80], [one.given("food", 10) for one in found])
        self.assertEqual([0, 0, 0, 0, 0, 25, 25, 0, 0, 0, 0], [one.spent("food", 10) for one in found])
        self.assertEqual([0, 0, 20, 20, 20, 0, 0, 20, 20, 20, 20], [one.promised("food", 10) for one in found])
        self.assertEqual([0, 0, 0, 0, 0, 0, 0, 11, 11, 11, 11], [one.given("roof", 10) for one in found])
        self.assertEqual([0, 0, 20, 20, 20, 25, 25, 20, 20, 20, 20], [one.taken(0, 10) for one in found])
        for day in [0, 1]:
            refused(self, NoPromise, found[day].word_left, "a", 10)
        self.assertEqual([20, 20, 20, 0, 0, 20, 20, 20, 20], [one.word_left("a", 10) for one in found[2:]])

    def test_it_is_a_dated_without_breach(self):
        book = a_book()
        for day in range(11):
            self.assertIs(Dated, type(book.known(day)))
            self.assertIsNone(book.known(day).breach())

    def test_the_same_as_a_dated_of_these_entries(self):
        found = a_book().known(5)
        other = Dated(a_book().year, [(2, Promise("a", "food", 20, "")), (3, Out("a", 25, "")),
                                      (1, Give("food", 80, ""))])
        for name in SIX:
            for head in NAMES:
                for date in range(1, 11):
                    self.assertEqual(getattr(other, name)(head, date), getattr(found, name)(head, date))

    def test_the_last_line_of_several_of_a_day(self):
        book = book_of(a_year(), (3, 3, Give("food", 1, "")), (3, 3, Give("food", 2, "")))
        book.back(3, 0)
        self.assertEqual([0, 2, 2], [book.known(day).given("food", 3) for day in [2, 3, 4]])

    def test_what_comes_later_changes_nothing_told(self):
        book = a_book()
        found = book.known(10)
        book.enter(8, 1, Give("food", 7, ""))
        book.back(9, 4)
        self.assertEqual((80, 11), (found.given("food", 10), found.given("roof", 10)))
        self.assertEqual((87, 0), (book.known(10).given("food", 10), book.known(10).given("roof", 10)))
        self.assertEqual((87, 11), (book.known(8).given("food", 10), book.known(8).given("roof", 10)))
        self.assertEqual((80, 11), (book.known(7).given("food", 10), book.known(7).given("roof", 10)))

    def test_a_full_book(self):
        book = book_of(a_year(), *[(5, 1, Give("food", 1, ""))] * 40)
        self.assertEqual([0, 40], [book.known(day).given("food", 1) for day in [4, 5]])

    def test_no_day(self):
        book = a_book()
        for day in [-1, 11, 31, True, False, "0", "5"] + things():
            if not is_nought(day):
                refused(self, NoDay, book.known, day)


class SumsAndKnots(unittest.TestCase):
    """[20]: sums and knot"""

    def test_sums(self):
        book = a_book()
        for day, date, told in [(0, 10, [0, 0, 0, 0, 0, 0]), (2, 1, [100, 0, 0, 0, 0, 100]),
                                (2, 2, [100, 0, 0, 20, 0, 80]), (4, 10, [100, 0, 0, 20, 0, 80]),
                                (5, 2, [80, 0, 0, 20, 0, 60]), (5, 3, [80, 0, 25, 0, 0, 55]),
                                (10, 10, [80, 0, 0, 20, 0, 60])]:
            self.assertEqual(dict(zip(SIX, told)), book.sums("food", day, date))
            self.assertEqual(SIX, list(book.sums("food", day, date)))

    def test_all_six(self):
        book = book_of(Year(10, HEADS, [], [("food", 1, 3, 5)]), (4, 1, Give("food", 100, "")),
                       (4, 2, Hold("food", 10, 5, "")), (4, 2, Move("food", "fish", 7, "")),
                       (4, 2, Spend("food", 4, "")), (4, 3, Promise("a", "food", 9, "")), (4, 4, Lessen("a", 1, "")),
                       (4, 4, Out("a", 3, "")))
        self.assertEqual(dict(zip(SIX, [100, -7, 4, 9, 43, 37])), book.sums("food", 4, 3))
        self.assertEqual(dict(zip(SIX, [100, -7, 7, 5, 43, 38])), book.sums("food", 10, 4))
        self.assertEqual(dict(zip(SIX, [100, -7, 7, 5, 0, 81])), book.sums("food", 4, 5))
        self.assertEqual(dict(zip(SIX, [0, 7, 0, 0, 0, 7])), book.sums("fish", 4, 5))
        self.assertEqual(dict(zip(SIX, [100, 0, 7, 5, 43, 45])), book.knot("food", 4, 4))

    def test_dates_above_the_day(self):
        book = a_book()
        self.assertEqual(80, book.sums("food", 2, 10)["left"])
        self.assertEqual(0, book.sums("food", 1, 10)["left"])

    def test_knot(self):
        book = book_of(Year(10, HEADS, [], []), *[
            (3, date, Give(name, coins, "")) for name, coins, date in
            [("all", 1, 1), ("food", 10, 1), ("fish", 100, 2), ("bread", 1000, 2), ("roof", 10000, 3), ("gifts", 7, 1)]
        ])
        book.enter(4, 3, Move("fish", "roof", 5, ""))
        for head, given, moved in [("all", 11111, 0), ("food", 1110, -5), ("fish", 100, -5), ("bread", 1000, 0),
                                   ("roof", 10000, 5), ("gifts", 7, 0)]:
            self.assertEqual(dict(zip(SIX, [given, moved, 0, 0, 0, given + moved])), book.knot(head, 4, 3))
            self.assertEqual(given, book.knot(head, 3, 3)["left"])
            self.assertEqual(SIX, list(book.knot(head, 4, 3)))
        self.assertEqual([11, 1111, 11111], [book.knot("all", 3, date)["given"] for date in [1, 2, 3]])
        self.assertEqual(0, book.knot("all", 2, 3)["given"])

    def test_dicts_told_and_changed_change_nothing(self):
        book = a_book()
        for asked in [book.sums, book.knot]:
            first = asked("food", 5, 3)
            told = asked("food", 5, 3)
            told["left"] = 99
            told.clear()
            self.assertEqual(first, asked("food", 5, 3))
            self.assertIs(dict, type(first))
            self.assertEqual([int] * 6, [type(one) for one in first.values()])

    def test_no_head(self):
        book = a_book()
        for head in NEARLY + things():
            for asked in [book.sums, book.knot]:
                refused(self, NoHead, asked, head, 5, 5)
                refused(self, NoHead, asked, head, 11, None)

    def test_no_day(self):
        book = a_book()
        for asked in [book.sums, book.knot]:
            for day in [-1, 11, True, False, "5"] + things():
                if not is_nought(day):
                    refused(self, NoDay, asked, "food", day, 5)
                    refused(self, NoDay, asked, "food", day, 0)
                refused(self, NoDay, asked, "food", 5, day)
            refused(self, NoDay, asked, "food", 0, 0)
            self.assertEqual(0, asked("food", 0, 1)["left"])


class Lists(unittest.TestCase):
    """[21]"""

    def test_lines_and_live(self):
        book = a_book()
        self.assertEqual([("in", 2, 1, ("give", "food", 100, "")), ("in", 2, 2, ("promise", "a", "food", 20, "")),
                          ("in", 5, 3, ("out", "a", 25, "")), ("right", 5, 0, 1, ("give", "food", 80, "")),
                          ("in", 7, 6, ("give", "roof", 11, "")), ("back", 7, 2)], book.lines())
        self.assertEqual([(1, 2, ("promise", "a", "food", 20, "")), (3, 1, ("give", "food", 80, "")),
                          (4, 6, ("give", "roof", 11, ""))], book.live())

    def test_live_goes_by_numbers_not_by_dates_or_kinds(self):
        book = book_of(a_year(), (5, 4, Give("food", 9, "")), (5, 1, Give("gifts", 9, "")), (5, 3, Give("roof", 1, "")))
        self.assertEqual([0, 1, 2], [row[0] for row in book.live()])
        self.assertEqual([4, 1, 3], [row[1] for row in book.live()])
        book.right(6, 0, 5, Give("food", 9, ""))
        self.assertEqual([1, 2, 3], [row[0] for row in book.live()])

    def test_late(self):
        book = a_book()
        self.assertEqual([3, 4], book.late())
        self.assertIs(list, type(book.late()))
        self.assertEqual([], Book(a_year()).late())

    def test_late_is_of_live_entries_dated_below_the_day_of_their_line(self):
        book = book_of(a_year(), (3, 3, Give("food", 1, "")), (3, 2, Give("food", 1, "")), (4, 3, Give("food", 1, "")),
                       (9, 9, Give("food", 1, "")))
        self.assertEqual([1, 2], book.late())
        book.back(9, 1)
        self.assertEqual([2], book.late())

    def test_late_of_an_entry_put_right(self):
        book = book_of(a_year(), (3, 3, Give("food", 1, "")), (3, 2, Give("food", 1, "")))
        book.right(5, 0, 3, Give("food", 2, ""))
        self.assertEqual([1, 2], book.late())
        book.right(5, 1, 5, Give("food", 2, ""))
        self.assertEqual([2], book.late())
        book.back(5, 2)
        self.assertEqual([], book.late())
        self.assertEqual((4, None), book.enter(6, 5, Give("food", 3, "")))
        self.assertEqual([4], book.late())


class Twins(unittest.TestCase):
    """[22]"""

    def test_the_same_lines(self):
        book = a_book()
        twin = book.twin()
        self.assertIs(Book, type(twin))
        self.assertIsNot(book, twin)
        self.assertEqual(told_by(book), told_by(twin))
        self.assertEqual((10, HEADS), (twin.year.days, twin.year.heads))

    def test_led_on_beside_each_other(self):
        book = a_book()
        first = told_by(book)
        twin = book.twin()
        self.assertEqual((5, None), twin.enter(8, 8, Give("gifts", 1, "")))
        twin.right(8, 1, 2, Promise("a", "food", 30, ""))
        twin.back(9, 4)
        self.assertEqual(first, told_by(book))
        second = told_by(twin)
        self.assertEqual((5, None), book.enter(7, 7, Spend("food", 2, "")))
        passed(self, (2, ("left", "food")), book.back, 7, 3)
        self.assertEqual(second, told_by(twin))
        self.assertEqual((9, 7), (twin.today(), book.today()))
        self.assertEqual([0, 2], [book.sums("gifts", 10, 10)["given"], book.sums("food", 10, 10)["spent"]])
        self.assertEqual([1, 0], [twin.sums("gifts", 10, 10)["given"], twin.sums("food", 10, 10)["spent"]])

    def test_a_twin_refuses_as_its_book(self):
        book = a_book()
        book.enter(8, 8, Out("a", 1, ""))
        twin = book.twin()
        for one in [book, twin]:
            leaned(self, [5], one.back, 8, 1)
            passed(self, (8, ("left", "food")), one.enter, 8, 8, Spend("food", 61, ""))
            refused(self, NoDay, one.enter, 7, 7, Spend("food", 1, ""))

    def test_a_twin_of_an_empty_and_of_a_full_book(self):
        self.assertEqual([], Book(a_year()).twin().lines())
        twin = book_of(a_year(), *[(5, 1, Give("food", 1, ""))] * 39).twin()
        self.assertEqual((39, 0), twin.enter(5, 1, Give("food", 1, "")))

    def test_a_twin_of_a_twin(self):
        book = a_book()
        twin = book.twin()
        twin.enter(8, 8, Give("gifts", 1, ""))
        other = twin.twin()
        other.enter(8, 8, Give("gifts", 1, ""))
        self.assertEqual([6, 7, 8], [len(one.lines()) for one in [book, twin, other]])

    def test_asked_again_the_same_is_told(self):
        book = a_book()
        first = [all_sums(book, day) for day in range(11)]
        refused(self, Passed, book.enter, 8, 8, Spend("gifts", 1, ""))
        self.assertEqual(first[::-1], [all_sums(book, day) for day in range(10, -1, -1)])


if __name__ == "__main__":
    unittest.main()
