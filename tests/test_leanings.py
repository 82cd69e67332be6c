"""[2], [23] to [25]: what may still be promised, what may be back, what would go with it, and what moves would do."""

import unittest

from knotpurse.dated import Dated
from knotpurse.entries import Give, Hold, Lessen, Move, Out, Promise, Spend, read_entry
from knotpurse.errors import NoDay, NoEntry, NoHead, NoNumber, Passed
from knotpurse.leanings import fills, may_be_back, needs
from knotpurse.years import Year
from things import HEADS, NEARLY, book_of, is_nought, leaned, passed, refused, things, told_by

MOST = 10 ** 12


def a_book(*rows, limits=(), rules=()):
    return book_of(Year(10, HEADS, list(limits), list(rules)), *rows)


def backed(rows, day=10):
    """Rows of entries, each dated to its day, all entered on one day."""
    return [(day, date, entry) for date, entry in rows]


def full_book():
    return a_book(*[(5, 1, Give("food", 1, ""))] * 39, (5, 2, Spend("food", 30, "")))


class May(unittest.TestCase):
    """[23]"""

    def just(self, book, head, date, most, breach):
        """It is told, and the book says the same where both a Promise of so much and of one coin more are entered."""
        self.assertEqual((most, breach), book.may(head, date))
        self.assertEqual([tuple, int, tuple, tuple],
                         [type(one) for one in (book.may(head, date), most, breach, book.may(head, date)[1][1])])
        if most < MOST:
            passed(self, breach, book.twin().enter, 10, date, Promise("nobodys", head, most + 1, ""))
        if 0 < most <= MOST:
            book.twin().enter(10, date, Promise("nobodys", head, most, ""))

    def test_no_limit(self):
        book = a_book(*backed([(1, Give("food", 50, "")), (4, Spend("food", 10, "")), (6, Give("food", 5, "")),
                               (9, Hold("food", 20, 11, ""))]))
        for date, most, breach in [(1, 25, (9, ("left", "food"))), (4, 25, (9, ("left", "food"))),
                                   (10, 25, (10, ("left", "food")))]:
            self.just(book, "food", date, most, breach)

    def test_the_least_from_the_date_on(self):
        book = a_book(*backed([(1, Give("food", 50, "")), (3, Hold("food", 40, 5, "")), (5, Spend("food", 30, "")),
                               (8, Give("food", 7, ""))]))
        for date, most, breach in [(1, 10, (3, ("left", "food"))), (4, 10, (4, ("left", "food"))),
                                   (5, 20, (5, ("left", "food"))), (7, 20, (7, ("left", "food"))),
                                   (8, 27, (8, ("left", "food"))), (10, 27, (10, ("left", "food")))]:
            self.just(book, "food", date, most, breach)

    def test_where_nothing_may_be_promised(self):
        book = a_book(*backed([(2, Give("food", 5, "")), (4, Spend("food", 5, ""))]))
        self.just(book, "food", 1, 0, (1, ("left", "food")))
        self.just(book, "food", 2, 0, (4, ("left", "food")))
        self.just(book, "food", 10, 0, (10, ("left", "food")))
        self.just(book, "gifts", 3, 0, (3, ("left", "gifts")))
        self.just(a_book(), "all", 1, 0, (1, ("left", "all")))

    def test_a_rule_holds_back(self):
        book = a_book(*backed([(2, Give("food", 10, ""))]), rules=[("food", 1, 2, 5)])
        self.just(book, "food", 2, 5, (2, ("left", "food")))
        self.just(book, "food", 4, 5, (4, ("left", "food")))
        self.just(book, "food", 5, 10, (5, ("left", "food")))

    def test_with_a_limit(self):
        book = a_book(*backed([(1, Give("fish", 90, "")), (3, Spend("fish", 10, "")), (6, Spend("fish", 5, ""))]),
                      limits=[("food", 3, 6, 40), ("all", 5, 9, 20)])
        self.just(book, "fish", 1, 75, (6, ("left", "fish")))
        self.just(book, "fish", 2, 75, (6, ("left", "fish")))
        self.just(book, "fish", 3, 25, (6, ("limit", 0)))
        self.just(book, "fish", 5, 15, (6, ("limit", 1)))
        self.just(book, "fish", 6, 15, (6, ("limit", 1)))
        self.just(book, "fish", 7, 15, (7, ("limit", 1)))
        self.just(book, "fish", 9, 15, (9, ("limit", 1)))
        self.just(book, "fish", 10, 75, (10, ("left", "fish")))

    def test_a_limit_of_another_head_binds_nothing(self):
        book = a_book(*backed([(1, Give("food", 9, ""))]), limits=[("fish", 1, 10, 0), ("roof", 1, 10, 0)])
        self.just(book, "food", 1, 9, (1, ("left", "food")))

    def test_a_limit_that_is_used_up(self):
        book = a_book(*backed([(1, Give("food", 9, "")), (2, Spend("food", 4, ""))]), limits=[("food", 1, 3, 4)])
        self.just(book, "food", 1, 0, (2, ("limit", 0)))
        self.just(book, "food", 3, 0, (3, ("limit", 0)))
        self.just(book, "food", 4, 5, (4, ("left", "food")))

    def test_a_head_ahead_of_a_limit_and_the_least_of_two_alike(self):
        book = a_book(*backed([(1, Give("food", 9, ""))]), limits=[("all", 1, 10, 9), ("food", 1, 10, 9)])
        self.just(book, "food", 2, 9, (2, ("left", "food")))
        book = a_book(*backed([(1, Give("food", 9, ""))]),
                      limits=[("gifts", 1, 9, 0), ("food", 2, 4, 5), ("all", 2, 4, 5)])
        self.just(book, "food", 2, 5, (2, ("limit", 1)))

    def test_a_limit_that_is_least_on_a_day_between(self):
        book = a_book(*backed([(1, Give("food", 90, "")), (1, Promise("a", "food", 9, "")), (3, Spend("food", 6, "")),
                               (4, Lessen("a", 9, ""))]), limits=[("food", 2, 9, 10)])
        self.just(book, "food", 2, 4, (3, ("limit", 0)))
        self.just(book, "food", 4, 13, (4, ("limit", 0)))

    def test_above_the_greatest_sum(self):
        book = a_book(*[(1, 1, Give("food", MOST, ""))] * 3, limits=[("food", 2, 2, 10 ** 15)])
        self.just(book, "food", 1, 3 * MOST, (1, ("left", "food")))
        self.just(book, "food", 2, 3 * MOST, (2, ("left", "food")))
        book = a_book(*[(1, 1, Give("food", MOST, ""))] * 3, limits=[("food", 2, 9, 2 * MOST)])
        self.just(book, "food", 2, 2 * MOST, (2, ("limit", 0)))

    def test_of_a_full_book_and_of_any_day(self):
        book = full_book()
        self.assertEqual((9, (2, ("left", "food"))), book.may("food", 1))
        self.assertEqual((9, (10, ("left", "food"))), book.may("food", 10))

    def test_by_the_live_entries_alone(self):
        book = a_book((2, 1, Give("food", 9, "")), (2, 1, Spend("food", 4, "")))
        book.back(3, 1)
        self.assertEqual((9, (1, ("left", "food"))), book.may("food", 1))
        book.right(3, 0, 2, Give("food", 8, ""))
        self.assertEqual([(0, (1, ("left", "food"))), (8, (2, ("left", "food")))],
                         [book.may("food", date) for date in [1, 2]])

    def test_nothing_is_entered(self):
        book = full_book()
        first = told_by(book)
        book.may("food", 1)
        self.assertEqual(first, told_by(book))

    def test_no_head_and_no_day(self):
        book = full_book()
        for thing in NEARLY + things():
            refused(self, NoHead, book.may, thing, 1)
            refused(self, NoHead, book.may, thing, 0)
        for thing in [0, -1, 11, True, False, "1"] + things():
            refused(self, NoDay, book.may, "food", thing)


class MayBeBack(unittest.TestCase):
    """[24]"""

    def book(self):
        return a_book(*backed([(1, Give("food", 20, "")), (1, Give("food", 20, "")), (2, Promise("a", "food", 9, "")),
                               (4, Out("a", 1, "")), (3, Lessen("a", 1, "")), (3, Promise("b", "food", 9, "")),
                               (5, Spend("food", 3, "")), (6, Spend("food", 5, ""))]))

    def test_yes_leaned_and_passed(self):
        book = self.book()
        self.assertEqual([("passed", (6, ("left", "food"))), ("passed", (6, ("left", "food"))), ("leaned", [3, 4]),
                          ("yes", None), ("yes", None), ("yes", None), ("yes", None), ("yes", None)],
                         [may_be_back(book, number) for number in range(8)])

    def test_as_the_book_does(self):
        for number in range(8):
            kind, why = may_be_back(self.book(), number)
            if kind == "yes":
                self.assertIsNone(self.book().back(10, number))
            if kind == "leaned":
                leaned(self, why, self.book().back, 10, number)
            if kind == "passed":
                passed(self, why, self.book().back, 10, number)

    def test_at_a_limit(self):
        book = a_book(*backed([(1, Give("food", 99, "")), (2, Promise("a", "food", 9, "")), (3, Lessen("a", 4, "")),
                               (5, Spend("food", 5, ""))]), limits=[("roof", 1, 10, 0), ("all", 1, 10, 10)])
        self.assertEqual(("passed", (5, ("limit", 1))), may_be_back(book, 2))

    def test_of_a_full_book(self):
        book = full_book()
        self.assertEqual(("yes", None), may_be_back(book, 0))
        self.assertEqual(("yes", None), may_be_back(book, 39))
        self.assertEqual(40, len(book.lines()))

    def test_kinds_and_new_lists(self):
        book = self.book()
        found = may_be_back(book, 2)
        self.assertEqual([tuple, list], [type(one) for one in (found, found[1])])
        found[1].clear()
        self.assertEqual(("leaned", [3, 4]), may_be_back(book, 2))
        found = may_be_back(book, 0)
        self.assertEqual([tuple, tuple, int, tuple], [type(one) for one in (found, found[1], *found[1])])

    def test_no_number(self):
        book = self.book()
        book.back(10, 7)
        book.right(10, 6, 5, Spend("food", 4, ""))
        for number in [6, 7, 9, 40, -1, "0"] + things():
            if not is_nought(number):
                refused(self, NoNumber, may_be_back, book, number)
        self.assertEqual(("yes", None), may_be_back(book, 8))

    def test_the_book_is_unchanged(self):
        book = self.book()
        first = told_by(book)
        for number in range(8):
            may_be_back(book, number)
            needs(book, number)
            fills(book, "food", 1, 5)
        self.assertEqual(first, told_by(book))


class Needs(unittest.TestCase):
    """[25]: needs"""

    def goes(self, book, number, told):
        """It is told, and those that stay have no breach."""
        self.assertEqual(told, needs(book, number))
        self.assertIs(list, type(needs(book, number)))
        rows = [(date, read_entry(entry)) for one, date, entry in book.live() if one not in [number, *told]]
        self.assertIsNone(Dated(book.year, rows).breach())
        self.assertEqual(told == [], may_be_back(book, number)[0] == "yes")

    def test_an_empty_answer(self):
        book = a_book(*backed([(1, Give("food", 20, "")), (1, Give("food", 20, "")), (2, Promise("a", "food", 9, "")),
                               (3, Spend("food", 9, ""))]))
        for number in range(4):
            self.goes(book, number, [])

    def test_one_of_each_kind_at_a_head(self):
        for last in [Spend("food", 5, ""), Promise("b", "food", 5, ""), Hold("food", 5, 9, ""),
                     Move("food", "roof", 5, ""), Out("a", 6, "")]:
            book = a_book(*backed([(1, Give("food", 5, "")), (1, Give("food", 1, "")), (1, Promise("a", "food", 1, "")),
                                   (4, last)]))
            self.goes(book, 0, [3])

    def test_the_last_as_gone_through_comes_first(self):
        book = a_book(*backed([(1, Give("food", 10, "")), (1, Give("food", 10, "")), (3, Spend("food", 4, "")),
                               (3, Promise("a", "food", 5, "")), (3, Move("food", "roof", 3, "")),
                               (3, Hold("food", 2, 9, "")), (3, Out("a", 8, ""))]))
        self.goes(book, 0, [5, 4, 2])
        book.back(10, 5)
        self.goes(book, 0, [4, 2])
        book.back(10, 2)
        self.goes(book, 0, [4])
        book.back(10, 4)
        self.goes(book, 0, [])

    def test_an_out_behind_a_promise_of_one_date(self):
        book = a_book(*backed([(1, Give("food", 10, "")), (1, Give("food", 10, "")), (3, Promise("b", "food", 1, "")),
                               (3, Out("b", 4, "")), (3, Promise("a", "food", 8, ""))]))
        self.goes(book, 0, [3])

    def test_an_out_with_nothing_over_stays(self):
        book = a_book(*backed([(3, Give("food", 5, "")), (1, Give("food", 8, "")), (2, Promise("a", "food", 8, "")),
                               (3, Promise("b", "food", 5, "")), (3, Out("a", 8, ""))]))
        self.goes(book, 0, [3])

    def test_outs_with_something_over_of_one_promise(self):
        book = a_book(*backed([(3, Give("food", 10, "")), (1, Give("food", 10, "")), (2, Promise("a", "food", 10, "")),
                               (3, Out("a", 6, "")), (3, Out("a", 9, ""))]))
        self.goes(book, 0, [4])
        book = a_book(*backed([(3, Give("food", 10, "")), (1, Give("food", 10, "")), (2, Promise("a", "food", 10, "")),
                               (3, Out("a", 12, "")), (3, Out("a", 3, ""))]))
        self.goes(book, 0, [4, 3])

    def test_a_move_to_the_head_and_another_heads_stay(self):
        book = a_book(*backed([(1, Give("food", 10, "")), (1, Give("roof", 9, "")), (3, Spend("food", 8, "")),
                               (3, Move("roof", "food", 5, "")), (3, Spend("roof", 1, ""))]))
        self.goes(book, 0, [2])

    def test_several_rounds_and_what_leans_on_a_promise(self):
        book = a_book(*backed([(1, Give("all", 10, "")), (2, Move("all", "food", 10, "")),
                               (3, Move("food", "fish", 10, "")), (4, Promise("a", "fish", 10, "")),
                               (6, Out("a", 6, "")), (5, Lessen("a", 2, "")), (5, Out("a", 3, ""))]))
        self.goes(book, 0, [1, 2, 3, 4, 5, 6])
        self.goes(book, 1, [2, 3, 4, 5, 6])
        self.goes(book, 2, [3, 4, 5, 6])
        self.goes(book, 3, [4, 5, 6])
        self.goes(book, 4, [])
        self.goes(book, 6, [])

    def test_the_entrys_own_leaning_ones_first_and_then_rounds(self):
        # Money that a Promise's Lessen had set free was never the other head's: nothing more goes.
        book = a_book(*backed([(1, Give("food", 10, "")), (2, Promise("a", "food", 10, "")), (3, Lessen("a", 4, "")),
                               (4, Spend("food", 4, ""))]))
        self.goes(book, 1, [2])
        self.goes(book, 2, [3])
        self.goes(book, 0, [1, 2, 3])

    def test_at_a_limit(self):
        rows = backed([(1, Give("food", 99, "")), (1, Give("fish", 99, "")), (2, Promise("a", "food", 10, "")),
                       (3, Lessen("a", 8, "")), (4, Spend("food", 5, "")), (4, Spend("fish", 12, "")),
                       (1, Give("roof", 9, "")), (4, Spend("roof", 9, "")), (4, Hold("food", 5, 9, "")),
                       (4, Move("food", "roof", 1, "")), (5, Spend("food", 1, ""))])
        book = a_book(*rows, limits=[("roof", 1, 10, 99), ("food", 2, 6, 20)])
        self.goes(book, 3, [5])
        book = a_book(*rows[:5], *rows[6:], limits=[("food", 2, 6, 10)])
        self.goes(book, 3, [4, 9])

    def test_a_limit_and_its_first_day(self):
        book = a_book(*backed([(1, Give("food", 99, "")), (1, Promise("a", "food", 50, "")), (3, Lessen("a", 8, "")),
                               (3, Spend("food", 8, "")), (6, Spend("food", 5, ""))]), limits=[("all", 3, 5, 0)])
        self.goes(book, 2, [3])

    def test_a_promise_and_an_out_at_a_limit(self):
        book = a_book(*backed([(1, Give("food", 99, "")), (2, Promise("a", "food", 9, "")), (2, Lessen("a", 9, "")),
                               (3, Promise("b", "food", 2, "")), (3, Out("b", 6, "")), (3, Promise("c", "food", 3, "")),
                               (4, Out("c", 1, "")), (4, Lessen("c", 2, ""))]), limits=[("food", 1, 10, 9)])
        self.goes(book, 2, [4, 5, 6, 7, 3])

    def test_of_a_full_book(self):
        book = a_book(*[(5, 1, Give("food", 1, ""))] * 37, (5, 2, Promise("a", "food", 30, "")),
                      (5, 3, Spend("food", 7, "")), (5, 3, Lessen("a", 1, "")))
        self.assertEqual(40, len(book.lines()))
        self.goes(book, 0, [])
        self.goes(book, 37, [39])
        self.goes(book, 39, [])

    def test_lists_told_are_new(self):
        book = a_book(*backed([(1, Give("food", 9, "")), (2, Spend("food", 9, ""))]))
        needs(book, 0).clear()
        self.assertEqual([1], needs(book, 0))

    def test_no_number(self):
        book = a_book(*backed([(1, Give("food", 9, "")), (2, Spend("food", 9, "")), (2, Give("roof", 1, ""))]))
        book.back(10, 2)
        book.right(10, 1, 2, Spend("food", 8, ""))
        for number in [1, 2, 4, 40, -1, "0"] + things():
            if not is_nought(number):
                refused(self, NoNumber, needs, book, number)
        self.assertEqual([3], needs(book, 0))


class Fills(unittest.TestCase):
    """[25]: fills"""

    def lets_by(self, book, head, date, coins, rows):
        """It is told; with these Moves the Promise comes by, with one coin less it does not."""
        self.assertEqual(("moves", rows), fills(book, head, date, coins))
        for less in [0, 1][:len(rows) + 1]:
            twin = book.twin()
            for at, (other, gift) in enumerate(rows):
                if gift > less or at < len(rows) - 1:
                    twin.enter(10, date, Move(other, head, gift - (less if at == len(rows) - 1 else 0), ""))
            if less:
                refused(self, Passed, twin.enter, 10, date, Promise("nobodys", head, coins, ""))
            else:
                twin.enter(10, date, Promise("nobodys", head, coins, ""))

    def rich_book(self):
        return a_book(*backed([(1, Give("all", 3, "")), (1, Give("food", 5, "")), (1, Give("bread", 4, "")),
                               (1, Give("roof", 20, "")), (1, Give("gifts", 9, ""))]))

    def test_no_moves(self):
        for coins in [1, 4, 5]:
            self.lets_by(self.rich_book(), "food", 1, coins, [])

    def test_one_and_several(self):
        book = self.rich_book()
        self.lets_by(book, "food", 1, 6, [("all", 1)])
        self.lets_by(book, "food", 1, 8, [("all", 3)])
        self.lets_by(book, "food", 1, 9, [("all", 3), ("bread", 1)])
        self.lets_by(book, "food", 4, 14, [("all", 3), ("bread", 4), ("roof", 2)])
        self.lets_by(book, "food", 10, 41, [("all", 3), ("bread", 4), ("roof", 20), ("gifts", 9)])
        self.lets_by(book, "all", 1, 9, [("food", 5), ("bread", 1)])
        self.lets_by(book, "fish", 1, 9, [("all", 3), ("food", 5), ("bread", 1)])
        self.lets_by(book, "gifts", 1, 10, [("all", 1)])

    def test_short(self):
        for head in ["all", "food", "fish", "gifts"]:
            self.assertEqual(("short", 1), fills(self.rich_book(), head, 1, 42))
            self.assertEqual(("short", MOST - 41), fills(self.rich_book(), head, 10, MOST))
        self.assertEqual(("short", 1), fills(a_book(), "food", 1, 1))

    def test_rooms_are_the_least_from_the_date_on(self):
        book = a_book(*backed([(1, Give("roof", 20, "")), (3, Hold("roof", 15, 5, "")), (8, Spend("roof", 8, "")),
                               (2, Give("food", 9, "")), (4, Spend("food", 3, "")), (6, Give("food", 4, ""))]))
        self.assertEqual(("short", 1), fills(book, "food", 1, 6))
        self.lets_by(book, "food", 1, 5, [("roof", 5)])
        self.lets_by(book, "food", 2, 7, [("roof", 1)])
        self.lets_by(book, "food", 4, 11, [("roof", 5)])
        self.lets_by(book, "food", 5, 18, [("roof", 12)])
        self.lets_by(book, "food", 6, 11, [("roof", 1)])
        self.assertEqual(("short", 2), fills(book, "food", 10, 24))

    def test_what_a_rule_holds_is_no_room(self):
        book = a_book(*backed([(1, Give("roof", 21, ""))]), rules=[("roof", 1, 2, 4), ("food", 1, 1, 11)])
        self.lets_by(book, "food", 3, 11, [("roof", 11)])
        self.assertEqual(("short", 1), fills(book, "food", 3, 12))
        self.lets_by(book, "food", 4, 21, [("roof", 21)])

    def test_limit(self):
        book = a_book(*backed([(1, Give("food", 90, "")), (5, Spend("food", 4, ""))]),
                      limits=[("gifts", 1, 10, 0), ("all", 3, 6, 10), ("food", 5, 9, 6)])
        for date, coins, told in [(1, 86, ("moves", [])), (2, 86, ("moves", [])), (3, 6, ("moves", [])),
                                  (3, 7, ("limit", (5, ("limit", 1)))), (3, 10, ("limit", (5, ("limit", 1)))),
                                  (3, 11, ("limit", (3, ("limit", 1)))), (5, 2, ("moves", [])),
                                  (5, 3, ("limit", (5, ("limit", 2)))), (5, 7, ("limit", (5, ("limit", 1)))),
                                  (6, 7, ("limit", (6, ("limit", 1)))), (7, 3, ("limit", (7, ("limit", 2)))),
                                  (9, 3, ("limit", (9, ("limit", 2)))), (10, 86, ("moves", []))]:
            self.assertEqual(told, fills(book, "food", date, coins), (date, coins))

    def test_limit_ahead_of_short_and_of_days_without_money(self):
        book = a_book(*backed([(4, Give("food", 9, "")), (4, Spend("food", 9, ""))]), limits=[("food", 2, 9, 9)])
        self.assertEqual(("limit", (4, ("limit", 0))), fills(book, "food", 2, 1))
        self.assertEqual(("limit", (2, ("limit", 0))), fills(book, "food", 2, MOST))
        self.assertEqual(("short", 1), fills(book, "food", 1, 1))
        self.assertEqual(("short", MOST), fills(book, "roof", 2, MOST))

    def test_coins_at_their_ends(self):
        book = a_book(*[(1, 1, Give("roof", MOST, ""))] * 2, (1, 1, Give("gifts", 1, "")))
        self.lets_by(book, "food", 1, 1, [("roof", 1)])
        self.lets_by(book, "food", 1, MOST, [("roof", MOST)])
        self.lets_by(book, "gifts", 1, MOST, [("roof", MOST - 1)])
        self.assertEqual(("moves", []), fills(book, "roof", 1, MOST))

    def test_of_a_full_book(self):
        book = full_book()
        self.assertEqual(("moves", [("food", 9)]), fills(book, "roof", 1, 9))
        self.assertEqual(("short", 1), fills(book, "roof", 1, 10))
        self.assertEqual(40, len(book.lines()))

    def test_kinds_and_new_lists(self):
        book = self.rich_book()
        found = fills(book, "food", 1, 10)
        self.assertEqual([tuple, str, list, tuple], [type(one) for one in (found, found[0], found[1], found[1][0])])
        found[1].clear()
        self.assertEqual(("moves", [("all", 3), ("bread", 2)]), fills(book, "food", 1, 10))
        fills(book, "food", 1, 1)[1].append("more")
        self.assertEqual(("moves", []), fills(book, "food", 1, 1))

    def test_refused_and_in_which_order(self):
        book = self.rich_book()
        for thing in NEARLY + things():
            refused(self, NoHead, fills, book, thing, 1, 1)
            refused(self, NoHead, fills, book, thing, 0, 0)
        for thing in [0, -1, 11, True, False, "1"] + things():
            refused(self, NoDay, fills, book, "food", thing, 1)
            refused(self, NoDay, fills, book, "food", thing, 0)
        for thing in [0, -1, MOST + 1, True, False, "1"] + things():
            refused(self, NoEntry, fills, book, "food", 1, thing)


if __name__ == "__main__":
    unittest.main()
