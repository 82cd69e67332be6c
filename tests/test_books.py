"""[2], [3], [16] to [19]: lines, numbers and what is live; enter, back and right, and which refusal comes first."""

import unittest

from knotpurse.books import Book
from knotpurse.entries import Entry, Give, Hold, Lessen, Move, Out, Promise, Spend
from knotpurse.errors import Full, Leaned, NoDay, NoEntry, NoNumber, NoPromise, Passed, Taken
from knotpurse.years import Year
from things import (HEADS, a_year, as_it_was, book_of, every_entry, is_nought, leaned, no_entries, passed, refused,
                    things, told_by)

NO_DAYS = [0, -1, 11, 31, True, False, "1", "5", None]


def a_book(*rows, limits=(), rules=()):
    return book_of(Year(10, HEADS, list(limits), list(rules)), *rows)


def promised_book():
    """Numbers 0 to 5, entered on day 3: a Give, two Promises, a Lessen and an Out of a, and another Give."""
    return a_book((3, 1, Give("food", 100, "")), (3, 1, Promise("a", "food", 20, "")),
                  (3, 1, Promise("b", "food", 10, "")), (3, 2, Lessen("a", 5, "")), (3, 3, Out("a", 5, "")),
                  (3, 1, Give("roof", 50, "")))


def full_book():
    """A book of 40 lines, the last one of day 5; number 0 is live."""
    return a_book(*[(5, 1, Give("food", 1, ""))] * 40)


class Lines(unittest.TestCase):
    """[16], and what enter, back and right tell"""

    def test_a_new_book(self):
        year = a_year()
        book = Book(year)
        self.assertIs(year, book.year)
        self.assertEqual((0, [], [], []), (book.today(), book.lines(), book.live(), book.late()))

    def test_all_three_kinds_of_lines(self):
        book = a_book()
        self.assertEqual((0, None), book.enter(2, 1, Give("food", 50, "")))
        self.assertEqual(2, book.today())
        self.assertEqual((1, None), book.enter(2, 2, Hold("food", 5, 4, "note")))
        self.assertEqual((2, None), book.right(4, 1, 3, Spend("food", 6, "")))
        self.assertEqual(4, book.today())
        self.assertIsNone(book.back(7, 2))
        self.assertEqual(7, book.today())
        self.assertEqual((3, None), book.enter(7, 7, Promise("a", "food", 5, "")))
        self.assertEqual([("in", 2, 1, ("give", "food", 50, "")), ("in", 2, 2, ("hold", "food", 5, 4, "note")),
                          ("right", 4, 1, 3, ("spend", "food", 6, "")), ("back", 7, 2),
                          ("in", 7, 7, ("promise", "a", "food", 5, ""))], book.lines())
        self.assertEqual([(0, 1, ("give", "food", 50, "")), (3, 7, ("promise", "a", "food", 5, ""))], book.live())

    def test_all_seven_kinds_of_entries(self):
        book = a_book()
        entries = [Give("food", 50, ""), Hold("food", 5, 4, ""), Move("food", "roof", 5, ""), Spend("food", 5, ""),
                   Promise("a", "food", 5, ""), Lessen("a", 1, ""), Out("a", 1, "")]
        for number, entry in enumerate(entries):
            self.assertEqual((number, None), book.enter(3, 3, entry))
        self.assertEqual([("in", 3, 3, entry.told()) for entry in entries], book.lines())
        self.assertEqual([(number, 3, entry.told()) for number, entry in enumerate(entries)], book.live())

    def test_kinds_of_what_is_told(self):
        book = promised_book()
        book.right(4, 0, 1, Give("food", 90, ""))
        book.back(4, 5)
        self.assertIs(list, type(book.lines()))
        self.assertIs(list, type(book.live()))
        for line in book.lines():
            self.assertIs(tuple, type(line))
            self.assertTrue(line[0] == "back" or type(line[-1]) is tuple)
        for row in book.live():
            self.assertEqual([tuple, int, int, tuple], [type(one) for one in (row, *row)])
        self.assertIs(tuple, type(book.enter(5, 5, Give("food", 1, ""))))
        self.assertIs(tuple, type(book.right(5, 7, 5, Give("food", 1, ""))))
        self.assertIs(int, type(book.today()))

    def test_numbers_are_never_told_twice(self):
        book = a_book()
        for number in range(5):
            self.assertEqual((2 * number, None), book.enter(1, 1, Give("food", 5, "")))
            self.assertEqual((2 * number + 1, None), book.right(1, 2 * number, 1, Give("food", 6, "")))
            book.back(1, 2 * number + 1)
        self.assertEqual([], book.live())
        self.assertEqual(15, len(book.lines()))

    def test_again_with_none_one_and_several_alike(self):
        book = a_book()
        give = Give("food", 5, "")
        self.assertEqual((0, None), book.enter(3, 2, give))
        self.assertEqual((1, 0), book.enter(3, 2, Give("food", 5, "")))
        self.assertEqual((2, 0), book.enter(3, 2, give))
        self.assertEqual((3, None), book.enter(3, 3, give))
        self.assertEqual((4, 3), book.enter(4, 3, give))
        for other in [Give("food", 6, ""), Give("roof", 5, ""), Give("food", 5, "note"), Spend("food", 5, "")]:
            self.assertIsNone(book.enter(4, 2, other)[1])
        book.back(5, 0)
        self.assertEqual((9, 1), book.enter(5, 2, give))

    def test_again_of_lessens_and_outs(self):
        book = promised_book()
        self.assertEqual((6, 3), book.enter(3, 2, Lessen("a", 5, "")))
        self.assertEqual((7, 4), book.enter(3, 3, Out("a", 5, "")))
        self.assertEqual((8, None), book.enter(3, 3, Lessen("b", 5, "")))

    def test_again_of_a_right_leaves_the_old_one_out(self):
        book = a_book((3, 2, Give("food", 5, "")), (3, 2, Give("food", 6, "")))
        self.assertEqual((2, None), book.right(3, 0, 2, Give("food", 5, "")))
        self.assertEqual((3, 1), book.right(3, 2, 2, Give("food", 6, "")))
        self.assertEqual((4, 3), book.right(3, 1, 2, Give("food", 6, "")))
        self.assertEqual((5, None), book.right(3, 3, 3, Give("food", 6, "")))


class Enter(unittest.TestCase):
    """[17]"""

    def test_day_and_date_equal_and_date_above_day(self):
        book = a_book()
        self.assertEqual((0, None), book.enter(1, 1, Give("food", 5, "")))
        self.assertEqual((1, None), book.enter(4, 4, Give("food", 5, "")))
        for day, date in [(4, 5), (4, 0), (4, -1), (4, 11), (5, 10), (9, 10)]:
            as_it_was(self, book, NoDay, book.enter, day, date, Give("food", 5, ""))
        self.assertEqual((2, None), book.enter(10, 10, Give("food", 5, "")))

    def test_a_day_below_today(self):
        book = a_book((4, 4, Give("food", 5, "")))
        for day in [1, 3]:
            as_it_was(self, book, NoDay, book.enter, day, 1, Give("food", 5, ""))
        self.assertEqual((1, None), book.enter(4, 1, Give("food", 5, "")))
        book.back(6, 0)
        as_it_was(self, book, NoDay, book.enter, 5, 1, Give("food", 5, ""))

    def test_days_and_dates_that_are_none(self):
        book = a_book((1, 1, Give("food", 5, "")))
        for day in NO_DAYS + things():
            as_it_was(self, book, NoDay, book.enter, day, 1, Give("food", 5, ""))
            as_it_was(self, book, NoDay, book.enter, 10, day, Give("food", 5, ""))
        as_it_was(self, book, NoDay, book.enter, None, None, None)

    def test_no_entry(self):
        book = promised_book()
        for thing in no_entries() + [entry.told() for entry in every_entry()]:
            as_it_was(self, book, NoEntry, book.enter, 5, 3, thing)
        for entry in [Entry(), Give("none", 5, ""), Spend("foods", 5, ""), Promise("c", "c", 5, ""),
                      Move("food", "none", 5, ""), Move("none", "food", 5, ""), Hold("food", 5, 3, ""),
                      Hold("food", 5, 2, ""), Hold("food", 5, 12, ""), Hold("none", 5, 5, "")]:
            as_it_was(self, book, NoEntry, book.enter, 5, 3, entry)
        self.assertEqual((6, None), book.enter(5, 3, Hold("food", 5, 4, "")))

    def test_a_hold_fits_by_its_date_not_by_its_day(self):
        book = a_book((3, 3, Give("food", 9, "")))
        self.assertEqual((1, None), book.enter(8, 3, Hold("food", 5, 4, "")))

    def test_taken(self):
        book = promised_book()
        for entry in [Promise("a", "food", 20, ""), Promise("a", "roof", 1, "note"), Promise("b", "food", 10, "")]:
            as_it_was(self, book, Taken, book.enter, 5, 1, entry)
        book.enter(5, 5, Out("b", 10, ""))
        as_it_was(self, book, Taken, book.enter, 5, 5, Promise("b", "food", 10, ""))
        self.assertEqual((7, None), book.enter(5, 5, Promise("c", "food", 10, "")))

    def test_a_word_is_free_where_its_promise_is_back(self):
        book = promised_book()
        book.back(4, 2)
        self.assertEqual((6, None), book.enter(5, 5, Promise("b", "roof", 10, "")))

    def test_no_promise(self):
        book = promised_book()
        book.back(4, 2)
        for word in ["b", "c", "food", "aa"]:
            for entry in [Lessen(word, 1, ""), Out(word, 1, "")]:
                as_it_was(self, book, NoPromise, book.enter, 5, 5, entry)

    def test_passed_where_the_only_promise_is_dated_later(self):
        book = a_book((3, 1, Give("food", 100, "")), (3, 3, Promise("a", "food", 20, "")))
        for entry in [Lessen("a", 1, ""), Out("a", 1, "")]:
            passed(self, (2, ("promise", 2)), book.enter, 3, 2, entry)
            as_it_was(self, book, Passed, book.enter, 4, 1, entry)
        self.assertEqual((2, None), book.enter(4, 3, Lessen("a", 20, "")))
        passed(self, (3, ("promise", 3)), book.enter, 4, 3, Lessen("a", 1, ""))

    def test_passed_with_the_number_of_another_that_was_right_so_far(self):
        book = a_book((3, 1, Give("food", 100, "")), (3, 1, Promise("a", "food", 20, "")), (3, 3, Lessen("a", 15, "")))
        passed(self, (3, ("promise", 2)), book.enter, 4, 2, Out("a", 6, ""))
        self.assertEqual((3, None), book.enter(4, 2, Out("a", 5, "")))

    def test_passed_at_a_head_and_at_a_limit(self):
        book = a_book((1, 1, Give("food", 10, "")), (1, 1, Give("gifts", 10, "")), limits=[("gifts", 2, 9, 4)])
        for entry in [Spend("food", 11, ""), Promise("a", "food", 11, ""), Hold("food", 11, 5, ""),
                      Move("food", "roof", 11, "")]:
            passed(self, (3, ("left", "food")), book.enter, 3, 3, entry)
        passed(self, (3, ("limit", 0)), book.enter, 3, 3, Spend("gifts", 5, ""))
        as_it_was(self, book, Passed, book.enter, 3, 3, Spend("gifts", 5, ""))
        self.assertEqual((2, None), book.enter(3, 3, Spend("gifts", 4, "")))
        self.assertEqual((3, None), book.enter(3, 3, Spend("food", 10, "")))

    def test_passed_later_than_its_date(self):
        book = a_book((5, 1, Give("food", 10, "")), (5, 5, Spend("food", 8, "")))
        passed(self, (5, ("left", "food")), book.enter, 5, 2, Spend("food", 3, ""))
        self.assertEqual((2, None), book.enter(5, 2, Spend("food", 2, "")))

    def test_forty_lines_and_one_more(self):
        book = full_book()
        self.assertEqual((40, 39), (len(book.lines()), book.live()[-1][0]))
        as_it_was(self, book, Full, book.enter, 5, 1, Give("food", 1, ""))
        as_it_was(self, book, Full, book.enter, None, None, None)

    def test_backs_and_rights_are_lines_too(self):
        book = a_book((1, 1, Give("food", 1, "")))
        for number in range(19):
            book.right(1, number * 2, 1, Give("food", 1, ""))
            book.enter(1, 1, Give("roof", 1, ""))
        self.assertEqual(39, len(book.lines()))
        book.back(1, book.live()[-1][0])
        as_it_was(self, book, Full, book.enter, 1, 1, Give("food", 1, ""))

    def test_the_first_refusal_that_is_due(self):
        book = promised_book()
        as_it_was(self, book, NoDay, book.enter, 2, 1, Entry())
        as_it_was(self, book, NoDay, book.enter, 4, 5, Promise("a", "none", 5, ""))
        as_it_was(self, book, NoEntry, book.enter, 4, 1, Promise("a", "none", 5, ""))
        as_it_was(self, book, NoEntry, book.enter, 4, 1, "x")
        as_it_was(self, book, Taken, book.enter, 4, 1, Promise("a", "food", 500, ""))
        as_it_was(self, book, NoPromise, book.enter, 4, 1, Out("c", 500, ""))
        full = full_book()
        for day, date, entry in [(0, 1, Give("food", 1, "")), (5, 9, Entry()), (5, 5, Out("c", 1, "")),
                                 (5, 5, Spend("roof", 1, ""))]:
            as_it_was(self, full, Full, full.enter, day, date, entry)


class Back(unittest.TestCase):
    """[18]"""

    def test_of_each_kind(self):
        rows = [(1, 1, Give("food", 50, "")), (1, 1, Give("food", 50, "")), (1, 1, Hold("food", 5, 4, "")),
                (1, 1, Move("food", "roof", 5, "")), (1, 1, Spend("food", 5, "")), (1, 1, Promise("a", "food", 5, "")),
                (1, 1, Lessen("a", 1, "")), (1, 1, Out("a", 1, ""))]
        for number in [0, 1, 2, 3, 4, 6, 7]:
            book = a_book(*rows)
            self.assertIsNone(book.back(1, number))
            self.assertEqual(("back", 1, number), book.lines()[-1])
            self.assertEqual([one for one in range(8) if one != number], [row[0] for row in book.live()])

    def test_a_promise_with_and_without_live_lessens_and_outs(self):
        book = promised_book()
        leaned(self, [3, 4], book.back, 4, 1)
        as_it_was(self, book, Leaned, book.back, 4, 1)
        self.assertIsNone(book.back(4, 2))
        book.back(4, 3)
        leaned(self, [4], book.back, 4, 1)
        book.enter(4, 3, Lessen("a", 1, ""))
        leaned(self, [4, 6], book.back, 4, 1)
        book.back(4, 4)
        book.back(4, 6)
        self.assertIsNone(book.back(4, 1))
        self.assertEqual([0, 5], [row[0] for row in book.live()])

    def test_numbers_of_those_that_lean_by_numbers_not_by_dates(self):
        book = a_book((5, 1, Give("food", 99, "")), (5, 1, Promise("a", "food", 9, "")), (5, 5, Out("a", 1, "")),
                      (5, 2, Lessen("a", 1, "")), (5, 4, Out("a", 1, "")))
        leaned(self, [2, 3, 4], book.back, 5, 1)

    def test_the_numbers_told_are_the_askers_own(self):
        book = promised_book()
        as_it_was(self, book, Leaned, book.back, 4, 1).numbers.clear()
        leaned(self, [3, 4], book.back, 4, 1)

    def test_passed(self):
        book = a_book((5, 1, Give("food", 10, "")), (5, 4, Spend("food", 8, "")))
        passed(self, (4, ("left", "food")), book.back, 6, 0)
        as_it_was(self, book, Passed, book.back, 6, 0)
        book.back(6, 1)
        book.back(6, 0)
        self.assertEqual([], book.live())

    def test_a_lessen_whose_back_passes_a_limit(self):
        book = a_book((5, 1, Give("food", 99, "")), (5, 2, Promise("a", "food", 10, "")), (5, 2, Lessen("a", 6, "")),
                      (5, 3, Spend("food", 6, "")), limits=[("all", 2, 9, 10)])
        passed(self, (3, ("limit", 0)), book.back, 6, 2)
        book.back(6, 3)
        self.assertIsNone(book.back(6, 2))

    def test_no_number(self):
        book = promised_book()
        book.back(3, 5)
        book.right(3, 2, 1, Promise("b", "food", 9, ""))
        for number in [2, 5, 7, 8, 40, -1, "0", ""] + things():
            if not is_nought(number):
                as_it_was(self, book, NoNumber, book.back, 4, number)
        self.assertIsNone(book.back(4, 6))

    def test_a_truth_is_no_number(self):
        book = a_book((1, 1, Give("food", 1, "")), (1, 1, Give("food", 1, "")))
        for number in [True, False]:
            as_it_was(self, book, NoNumber, book.back, 1, number)

    def test_days_that_are_none(self):
        book = promised_book()
        for day in NO_DAYS + [1, 2] + things():
            as_it_was(self, book, NoDay, book.back, day, 5)
        self.assertIsNone(book.back(3, 5))

    def test_the_first_refusal_that_is_due(self):
        book = promised_book()
        as_it_was(self, book, NoDay, book.back, 2, 99)
        as_it_was(self, book, NoDay, book.back, 2, 1)
        as_it_was(self, book, NoNumber, book.back, 4, 99)
        # Without the Promise, its Lessen and its Out are faults, too.
        as_it_was(self, book, Leaned, book.back, 4, 1)
        full = full_book()
        for day, number in [(5, 0), (0, 0), (5, 99), (None, None)]:
            as_it_was(self, full, Full, full.back, day, number)


class Right(unittest.TestCase):
    """[19]"""

    def test_the_old_one_is_live_no_more(self):
        book = promised_book()
        self.assertEqual((6, None), book.right(4, 5, 2, Give("gifts", 7, "")))
        self.assertEqual([0, 1, 2, 3, 4, 6], [row[0] for row in book.live()])
        self.assertEqual((6, 2, ("give", "gifts", 7, "")), book.live()[-1])
        as_it_was(self, book, NoNumber, book.right, 4, 5, 2, Give("gifts", 7, ""))
        as_it_was(self, book, NoNumber, book.back, 4, 5)
        self.assertEqual((7, None), book.right(4, 6, 4, Give("gifts", 7, "")))

    def test_a_promise_by_one_of_the_same_word(self):
        book = promised_book()
        self.assertEqual((6, None), book.right(4, 1, 1, Promise("a", "food", 30, "")))
        self.assertEqual((7, None), book.right(4, 6, 1, Promise("a", "roof", 30, "note")))
        self.assertEqual(20, book.known(4).word_left("a", 4))
        self.assertEqual((8, None), book.right(4, 7, 1, Promise("a", "roof", 30, "note")))
        leaned(self, [3, 4], book.back, 4, 8)

    def test_a_promise_by_one_of_the_same_word_dated_later(self):
        book = promised_book()
        passed(self, (2, ("promise", 3)), book.right, 4, 1, 3, Promise("a", "food", 20, ""))
        self.assertEqual((6, None), book.right(4, 1, 2, Promise("a", "food", 20, "")))

    def test_a_promise_by_one_of_the_same_word_that_is_too_small(self):
        book = promised_book()
        passed(self, (2, ("promise", 3)), book.right, 4, 1, 1, Promise("a", "food", 4, ""))
        as_it_was(self, book, Passed, book.right, 4, 1, 1, Promise("a", "food", 4, ""))
        self.assertEqual((6, None), book.right(4, 1, 1, Promise("a", "food", 5, "")))

    def test_a_promise_by_one_of_another_word(self):
        book = promised_book()
        leaned(self, [3, 4], book.right, 4, 1, 1, Promise("c", "food", 20, ""))
        as_it_was(self, book, Leaned, book.right, 4, 1, 1, Promise("c", "food", 20, ""))
        as_it_was(self, book, Taken, book.right, 4, 1, 1, Promise("b", "food", 20, ""))
        self.assertEqual((6, None), book.right(4, 2, 1, Promise("c", "food", 20, "")))
        as_it_was(self, book, NoPromise, book.enter, 4, 4, Out("b", 1, ""))

    def test_a_promise_by_another_kind(self):
        book = promised_book()
        for entry in [Give("food", 5, ""), Hold("food", 5, 9, ""), Move("food", "roof", 5, ""), Spend("food", 5, ""),
                      Lessen("b", 1, ""), Out("b", 1, "")]:
            leaned(self, [3, 4], book.right, 4, 1, 1, entry)
        for entry in [Lessen("a", 1, ""), Out("a", 1, ""), Lessen("c", 1, "")]:
            as_it_was(self, book, NoPromise, book.right, 4, 1, 1, entry)
        for entry in [Lessen("b", 1, ""), Out("b", 1, "")]:
            as_it_was(self, book, NoPromise, book.right, 4, 2, 1, entry)
        self.assertEqual((6, None), book.right(4, 2, 1, Lessen("a", 1, "")))

    def test_words_that_are_heads_names(self):
        book = a_book((3, 1, Give("roof", 99, "")), (3, 1, Promise("food", "roof", 9, "")),
                      (3, 2, Give("food", 9, "")), (3, 2, Spend("food", 1, "")))
        self.assertEqual((4, None), book.right(4, 1, 1, Promise("food", "roof", 8, "")))
        book.enter(4, 2, Lessen("food", 1, ""))
        leaned(self, [5], book.back, 4, 4)
        for entry in [Give("food", 1, ""), Spend("food", 1, ""), Hold("food", 1, 9, ""), Move("food", "roof", 1, "")]:
            leaned(self, [5], book.right, 4, 4, 2, entry)
        as_it_was(self, book, NoPromise, book.enter, 4, 4, Out("roof", 1, ""))
        self.assertEqual((6, None), book.enter(4, 4, Promise("roof", "food", 1, "")))

    def test_a_lessen_by_another_one(self):
        book = promised_book()
        self.assertEqual((6, None), book.right(4, 3, 2, Lessen("a", 20, "")))
        passed(self, (2, ("promise", 7)), book.right, 4, 6, 2, Lessen("a", 21, ""))
        self.assertEqual((7, None), book.right(4, 6, 2, Out("b", 20, "")))
        self.assertEqual((8, None), book.right(4, 7, 2, Promise("c", "food", 20, "")))

    def test_taken_where_another_live_promise_has_the_word(self):
        book = promised_book()
        for number in [0, 2, 3, 5]:
            as_it_was(self, book, Taken, book.right, 4, number, 1, Promise("a", "food", 1, ""))

    def test_a_right_that_makes_a_breach(self):
        book = a_book((5, 1, Give("food", 10, "")), (5, 4, Spend("food", 8, "")), limits=[("food", 1, 3, 5)])
        passed(self, (4, ("left", "food")), book.right, 6, 0, 1, Give("food", 7, ""))
        passed(self, (4, ("left", "food")), book.right, 6, 0, 5, Give("food", 10, ""))
        passed(self, (4, ("left", "food")), book.right, 6, 0, 1, Give("roof", 10, ""))
        passed(self, (3, ("limit", 0)), book.right, 6, 1, 3, Spend("food", 8, ""))
        as_it_was(self, book, Passed, book.right, 6, 1, 3, Spend("food", 8, ""))
        self.assertEqual((2, None), book.right(6, 0, 4, Give("food", 8, "")))

    def test_the_old_one_counts_no_more(self):
        book = a_book((5, 1, Give("food", 10, "")), (5, 4, Spend("food", 8, "")), limits=[("food", 1, 9, 8)])
        self.assertEqual((2, None), book.right(6, 1, 4, Spend("food", 7, "")))
        self.assertEqual((3, None), book.right(6, 2, 4, Spend("food", 8, "")))

    def test_no_number(self):
        book = promised_book()
        book.back(3, 5)
        for number in [5, 6, 40, -1, "0", True, False] + things():
            if not is_nought(number):
                as_it_was(self, book, NoNumber, book.right, 4, number, 1, Give("food", 1, ""))

    def test_no_entry(self):
        book = promised_book()
        for thing in no_entries() + [entry.told() for entry in every_entry()]:
            as_it_was(self, book, NoEntry, book.right, 4, 0, 3, thing)
        for entry in [Entry(), Give("none", 5, ""), Hold("food", 5, 3, ""), Hold("food", 5, 12, "")]:
            as_it_was(self, book, NoEntry, book.right, 4, 0, 3, entry)

    def test_days_and_dates_that_are_none(self):
        book = promised_book()
        for day in NO_DAYS + [1, 2] + things():
            as_it_was(self, book, NoDay, book.right, day, 5, 1, Give("roof", 50, ""))
        for date in [6, 0, -1, 11, True, None] + things():
            as_it_was(self, book, NoDay, book.right, 5, 5, date, Give("roof", 50, ""))
        self.assertEqual((6, None), book.right(5, 5, 5, Give("roof", 50, "")))

    def test_the_first_refusal_that_is_due(self):
        book = promised_book()
        as_it_was(self, book, NoDay, book.right, 2, 99, 1, Entry())
        as_it_was(self, book, NoDay, book.right, 4, 99, 5, Entry())
        as_it_was(self, book, NoNumber, book.right, 4, 99, 1, Entry())
        as_it_was(self, book, NoNumber, book.right, 4, 99, 1, Promise("a", "food", 999, ""))
        as_it_was(self, book, NoEntry, book.right, 4, 1, 1, Promise("b", "none", 999, ""))
        as_it_was(self, book, Taken, book.right, 4, 1, 1, Promise("b", "food", 999, ""))
        as_it_was(self, book, NoPromise, book.right, 4, 1, 1, Out("a", 999, ""))
        as_it_was(self, book, Leaned, book.right, 4, 1, 1, Spend("food", 999, ""))
        as_it_was(self, book, Passed, book.right, 4, 0, 1, Spend("food", 999, ""))
        full = full_book()
        for day, number, date, entry in [(5, 0, 1, Give("food", 1, "")), (0, 0, 1, Give("food", 1, "")),
                                         (5, 99, 1, Entry()), (5, 0, 9, Entry()), (5, 0, 1, Spend("roof", 1, ""))]:
            as_it_was(self, full, Full, full.right, day, number, date, entry)


class NothingChanges(unittest.TestCase):
    """[2]"""

    def test_lists_told_and_changed_change_nothing(self):
        book = promised_book()
        first = told_by(book)
        for told in [book.lines(), book.live(), book.late()]:
            told.append("more")
            told[0] = "other"
            told.reverse()
        book.lines().clear()
        self.assertEqual(first, told_by(book))
        self.assertEqual((6, None), book.enter(3, 3, Spend("food", 1, "")))

    def test_the_year_is_unchanged(self):
        year = a_year()
        book = book_of(year, (3, 1, Give("food", 9, "")))
        refused(self, Passed, book.enter, 3, 1, Spend("food", 99, ""))
        self.assertEqual((a_year().days, a_year().heads, a_year().limits, a_year().rules),
                         (year.days, year.heads, year.limits, year.rules))

    def test_two_books_of_one_year(self):
        year = a_year()
        one, other = Book(year), Book(year)
        one.enter(3, 1, Give("food", 9, ""))
        self.assertEqual((0, [], []), (other.today(), other.lines(), other.live()))
        self.assertEqual((0, None), other.enter(1, 1, Give("food", 9, "")))
        self.assertEqual((1, 1), (len(one.lines()), len(other.lines())))

    def test_one_entry_in_several_lines_and_books(self):
        give = Give("gifts", 9, "")
        one, other = a_book((1, 1, give), (2, 2, give)), a_book((1, 1, give))
        self.assertEqual((2, 0), one.enter(2, 1, give))
        self.assertEqual((1, None), other.right(2, 0, 1, give))
        self.assertEqual(("give", "gifts", 9, ""), give.told())

    def test_asked_again_the_same_is_told(self):
        book, other = promised_book(), full_book()
        first, second = told_by(book), told_by(other)
        self.assertEqual((second, first), (told_by(other), told_by(book)))
        refused(self, Full, other.enter, 5, 5, Give("food", 1, ""))
        self.assertEqual((first, second), (told_by(book), told_by(other)))


if __name__ == "__main__":
    unittest.main()
