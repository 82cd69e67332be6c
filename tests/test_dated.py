"""[2], [3], [9] to [15]: what dated entries come to, their breach, and what Dated refuses."""

import itertools
import unittest

from knotpurse.dated import Dated
from knotpurse.entries import Entry, Give, Hold, Lessen, Move, Out, Promise, Spend
from knotpurse.errors import NoDay, NoEntry, NoHead, NoNumber, NoPromise, Passed
from knotpurse.years import Year
from things import HEADS, NAMES, NEARLY, SIX, a_year, every_entry, is_nought, no_entries, passed, refused, things

MOST = 10 ** 12


def dated(rows, limits=(), rules=(), days=10):
    return Dated(Year(days, HEADS, list(limits), list(rules)), list(rows))


def by_dates(asked, at, days=10):
    return [asked(at, date) for date in range(1, days + 1)]


class Order(unittest.TestCase):
    """[9]"""

    def test_kinds_of_one_date_in_any_order_of_numbers(self):
        rows = [(3, Give("food", 100, "")), (3, Promise("a", "food", 50, "")), (3, Lessen("a", 20, "")),
                (3, Out("a", 40, ""))]
        for some in itertools.permutations(rows):
            found = dated(some, [("food", 1, 10, 40)])
            self.assertIsNone(found.breach())
            self.assertEqual([0, 0, 100, 100], [found.given("food", date) for date in [1, 2, 3, 10]])
            self.assertEqual([0, 40, 60, 0, 40], [found.promised("food", 3), found.spent("food", 3),
                                                  found.left("food", 3), found.word_left("a", 3), found.taken(0, 3)])

    def test_dates_ahead_of_kinds_and_of_numbers(self):
        rows = [(4, Lessen("a", 30, "")), (3, Out("a", 40, "")), (1, Give("food", 99, "")),
                (2, Promise("a", "food", 50, ""))]
        for some in itertools.permutations(rows):
            self.assertEqual((4, ("promise", some.index(rows[0]))), dated(some).breach())

    def test_promises_of_one_date_by_numbers(self):
        give = (1, Give("food", 99, ""))
        rows = [give, (2, Promise("a", "food", 5, "")), (2, Promise("a", "food", 6, "")),
                (2, Promise("a", "roof", 7, ""))]
        self.assertEqual((2, ("promise", 2)), dated(rows).breach())
        self.assertEqual((2, ("promise", 1)), dated(rows[1:]).breach())

    def test_of_two_promises_the_later_one_is_the_fault(self):
        rows = [(3, Promise("a", "food", 5, "")), (2, Promise("a", "food", 6, "")), (1, Give("food", 99, ""))]
        found = dated(rows)
        self.assertEqual((3, ("promise", 0)), found.breach())
        self.assertEqual((6, 6), (found.word_left("a", 2), found.promised("food", 2)))

    def test_lessens_of_one_date_by_numbers(self):
        rows = [(1, Give("food", 99, "")), (2, Lessen("a", 30, "")), (2, Lessen("a", 25, "")),
                (2, Promise("a", "food", 50, ""))]
        self.assertEqual((2, ("promise", 2)), dated(rows).breach())
        rows[1] = (2, Lessen("a", 51, ""))
        self.assertEqual((2, ("promise", 1)), dated(rows).breach())

    def test_outs_of_one_date_by_numbers(self):
        # What both of a date are over together does not hang on their order: needs() asks which of them is.
        rows = [(1, Give("food", 99, "")), (1, Promise("a", "food", 10, "")), (2, Out("a", 4, "")),
                (2, Out("a", 9, "")), (3, Out("a", 1, ""))]
        found = dated(rows, [("food", 2, 10, 9), ("food", 3, 3, 9)])
        self.assertEqual([3, 4], [found.taken(0, 2), found.taken(0, 3)])
        self.assertEqual(1, found.taken(1, 3))
        self.assertEqual([10, 0, 0], [found.word_left("a", date) for date in [1, 2, 3]])


class Words(unittest.TestCase):
    """[10], and word_left of [14]"""

    def rows(self, *more):
        return [(1, Give("food", 100, "")), (2, Promise("a", "food", 50, "")), *more]

    def test_left_at_each_date(self):
        found = dated(self.rows((4, Lessen("a", 5, "")), (4, Out("a", 10, "")), (6, Out("a", 30, "")),
                                (8, Lessen("a", 5, ""))))
        self.assertIsNone(found.breach())
        self.assertEqual([50, 50, 35, 35, 5, 5, 0, 0, 0], [found.word_left("a", date) for date in range(2, 11)])
        self.assertEqual([0, 50, 50, 35, 35, 5, 5, 0, 0, 0], by_dates(found.promised, "food"))
        self.assertEqual([0, 0, 0, 10, 10, 40, 40, 40, 40, 40], by_dates(found.spent, "food"))

    def test_a_lessen_of_just_what_is_left_and_of_one_coin_more(self):
        self.assertIsNone(dated(self.rows((3, Lessen("a", 50, "")))).breach())
        self.assertEqual((3, ("promise", 2)), dated(self.rows((3, Lessen("a", 51, "")))).breach())
        self.assertIsNone(dated(self.rows((3, Out("a", 20, "")), (4, Lessen("a", 30, "")))).breach())
        self.assertEqual((4, ("promise", 3)),
                         dated(self.rows((3, Out("a", 20, "")), (4, Lessen("a", 31, "")))).breach())
        self.assertIsNone(dated(self.rows((3, Lessen("a", 20, "")), (3, Lessen("a", 30, "")))).breach())

    def test_a_lessen_of_a_promise_that_has_nothing_left(self):
        for gone in [Lessen("a", 50, ""), Out("a", 50, ""), Out("a", 60, "")]:
            self.assertEqual((4, ("promise", 3)), dated(self.rows((3, gone), (4, Lessen("a", 1, "")))).breach())

    def test_an_out_of_what_is_left_of_more_and_of_nothing(self):
        limits = [("food", 1, 10, 100)]
        for coins, left, over in [(49, 1, 0), (50, 0, 0), (51, 0, 1), (100, 0, 50)]:
            found = dated(self.rows((3, Out("a", coins, ""))), limits)
            self.assertIsNone(found.breach())
            self.assertEqual([left, left, coins, 100 - coins - left, 50 + over],
                             [found.word_left("a", 3), found.promised("food", 3), found.spent("food", 3),
                              found.left("food", 3), found.taken(0, 3)])
        found = dated(self.rows((3, Out("a", 50, "")), (4, Out("a", 7, ""))), limits)
        self.assertEqual([0, 57, 43, 57], [found.word_left("a", 4), found.spent("food", 4), found.left("food", 4),
                                           found.taken(0, 4)])

    def test_an_out_of_more_than_there_is_passes_the_head(self):
        self.assertEqual((3, ("left", "food")), dated(self.rows((3, Out("a", 101, "")))).breach())

    def test_dated_with_its_promise_and_ahead_of_it(self):
        for entry in [Lessen("a", 1, ""), Out("a", 1, "")]:
            self.assertIsNone(dated(self.rows((2, entry))).breach())
            self.assertIsNone(dated([(2, entry), *self.rows()]).breach())
            self.assertEqual((1, ("promise", 2)), dated(self.rows((1, entry))).breach())
            self.assertEqual((1, ("promise", 0)), dated([(1, entry), *self.rows()]).breach())

    def test_of_a_word_that_no_promise_has(self):
        for word in ["b", "aa", "food"]:
            for entry in [Lessen(word, 1, ""), Out(word, 1, "")]:
                self.assertEqual((5, ("promise", 2)), dated(self.rows((5, entry))).breach())

    def test_a_fault_does_nothing(self):
        # Did it something, then a head ahead of it in the order of days had a breach, or the next Lessen none.
        found = dated(self.rows((3, Promise("a", "food", 60, "")), (3, Lessen("a", 51, ""))))
        self.assertEqual((3, ("promise", 2)), found.breach())
        found = dated([(1, Give("food", 9, "")), (2, Out("a", 99, ""))])
        self.assertEqual((2, ("promise", 1)), found.breach())

    def test_a_word_for_each_promise(self):
        found = dated(self.rows((3, Promise("b", "roof", 1, "")), (3, Give("roof", 1, "")), (3, Out("b", 1, "")),
                                (4, Lessen("a", 5, ""))))
        self.assertEqual([50, 0, 45], [found.word_left("a", 3), found.word_left("b", 3), found.word_left("a", 4)])
        self.assertEqual([50, 0], [found.promised("food", 3), found.promised("roof", 3)])
        self.assertEqual([0, 1], [found.spent("food", 3), found.spent("roof", 3)])

    def test_a_word_may_be_a_heads_name(self):
        found = dated([(1, Give("food", 9, "")), (1, Promise("roof", "food", 5, "")), (2, Out("roof", 2, ""))])
        self.assertEqual((3, 3, 0), (found.word_left("roof", 2), found.promised("food", 2), found.spent("roof", 2)))


class Sums(unittest.TestCase):
    """[11]"""

    def test_given(self):
        found = dated([(5, Give("food", 7, "")), (2, Give("food", 10, "note")), (3, Give("fish", 1, "")),
                       (5, Give("food", 7, ""))])
        self.assertEqual([0, 10, 10, 10, 24, 24, 24, 24, 24, 24], by_dates(found.given, "food"))
        self.assertEqual([0, 0, 1, 1, 1, 1, 1, 1, 1, 1], by_dates(found.given, "fish"))
        self.assertEqual([0] * 10, by_dates(found.given, "all"))
        self.assertEqual(by_dates(found.given, "food"), by_dates(found.left, "food"))

    def test_moved(self):
        found = dated([(1, Give("food", 10, "")), (3, Move("food", "roof", 4, "")), (6, Move("roof", "food", 1, "")),
                       (6, Move("roof", "fish", 3, ""))])
        self.assertEqual([0, 0, -4, -4, -4, -3, -3, -3, -3, -3], by_dates(found.moved, "food"))
        self.assertEqual([0, 0, 4, 4, 4, 0, 0, 0, 0, 0], by_dates(found.moved, "roof"))
        self.assertEqual([0, 0, 0, 0, 0, 3, 3, 3, 3, 3], by_dates(found.moved, "fish"))
        self.assertEqual([10, 10, 6, 6, 6, 7, 7, 7, 7, 7], by_dates(found.left, "food"))
        self.assertEqual([10] * 10, by_dates(found.given, "food"))
        self.assertEqual([0] * 10, by_dates(found.given, "roof"))

    def test_spent(self):
        found = dated([(1, Give("food", 10, "")), (2, Spend("food", 3, "")), (4, Spend("food", 2, "")),
                       (1, Promise("a", "food", 4, "")), (4, Out("a", 1, ""))])
        self.assertEqual([0, 3, 3, 6, 6, 6, 6, 6, 6, 6], by_dates(found.spent, "food"))
        self.assertEqual([6, 3, 3, 1, 1, 1, 1, 1, 1, 1], by_dates(found.left, "food"))
        self.assertEqual([0] * 10, by_dates(found.spent, "all"))

    def test_held_by_a_hold_till_the_day_ahead_of_until(self):
        found = dated([(1, Give("food", 10, "")), (3, Hold("food", 4, 6, "")), (5, Hold("food", 1, 11, "")),
                       (9, Hold("food", 2, 10, ""))])
        self.assertEqual([0, 0, 4, 4, 5, 1, 1, 1, 3, 1], by_dates(found.held, "food"))
        self.assertEqual([10, 10, 6, 6, 5, 9, 9, 9, 7, 9], by_dates(found.left, "food"))
        self.assertEqual([0] * 10, by_dates(found.held, "all"))

    def test_held_by_a_rule_till_the_day_ahead_of_until(self):
        found = dated([(2, Give("food", 10, "")), (4, Give("food", 20, "")), (5, Give("food", 40, ""))],
                      rules=[("food", 1, 2, 5), ("food", 1, 10, 11)])
        self.assertEqual([0, 6, 6, 18, 7, 7, 7, 7, 7, 7], by_dates(found.held, "food"))
        self.assertEqual([0, 4, 4, 12, 63, 63, 63, 63, 63, 63], by_dates(found.left, "food"))

    def test_a_rule_is_of_its_head_alone_and_of_gives_alone(self):
        found = dated([(1, Give("food", 10, "")), (1, Give("all", 20, "")), (1, Move("all", "roof", 9, ""))],
                      rules=[("all", 1, 2, 11), ("roof", 1, 1, 11)])
        self.assertEqual([10, 0, 0], [found.held(head, 1) for head in ["all", "food", "roof"]])

    def test_rounding_down_each_by_itself(self):
        found = dated([(1, Give("food", 5, "")), (1, Give("food", 5, ""))],
                      rules=[("food", 1, 3, 11), ("food", 1, 3, 11), ("food", 1, 6, 11)])
        self.assertEqual(4, found.held("food", 1))
        found = dated([(1, Give("food", 10, ""))], rules=[("food", 1, 3, 11), ("food", 2, 3, 11)])
        self.assertEqual((9, 1), (found.held("food", 1), found.left("food", 1)))
        found = dated([(1, Give("food", MOST, ""))], rules=[("food", 999, 1000, 11), ("food", 0, 7, 11)])
        self.assertEqual(MOST - 10 ** 9, found.held("food", 1))

    def test_a_rule_of_the_whole(self):
        found = dated([(3, Give("food", 7, ""))], rules=[("food", 1, 1, 4)])
        self.assertEqual([(7, 0), (0, 7)], [(found.held("food", date), found.left("food", date)) for date in [3, 4]])
        self.assertIsNone(found.breach())

    def test_rules_with_until_at_the_ends(self):
        found = dated([(1, Give("food", 8, "")), (2, Give("food", 8, ""))],
                      rules=[("food", 1, 2, 2), ("food", 1, 4, 11)])
        self.assertEqual([6, 4, 4, 4, 4, 4, 4, 4, 4, 4], by_dates(found.held, "food"))

    def test_nothing_at_all(self):
        found = dated([])
        self.assertIsNone(found.breach())
        self.assertEqual([0], sorted({getattr(found, name)(head, date) for name in SIX for head in NAMES
                                      for date in range(1, 11)}))

    def test_the_greatest_sums(self):
        found = dated([(1, Give("food", MOST, "")) for number in range(20)]
                      + [(1, Spend("food", MOST, "")) for number in range(19)], [("all", 1, 10, 19 * MOST)])
        self.assertEqual((20 * MOST, 19 * MOST, MOST, 19 * MOST),
                         (found.given("food", 1), found.spent("food", 1), found.left("food", 1), found.taken(0, 10)))

    def test_kinds_of_what_is_told(self):
        found = dated([(1, Give("food", 5, "")), (1, Promise("a", "food", 5, ""))], [("all", 1, 5, 9)])
        for told in [getattr(found, name)("food", 1) for name in SIX] + [found.taken(0, 1), found.word_left("a", 1)]:
            self.assertIs(int, type(told))
        broken = dated([(2, Spend("food", 5, ""))]).breach()
        self.assertIs(tuple, type(broken))
        self.assertIs(tuple, type(broken[1]))


class Limits(unittest.TestCase):
    """[12]"""

    rows = [(1, Give("food", 900, "")), (1, Give("fish", 900, "")), (1, Give("roof", 900, "")),
            (1, Promise("a", "food", 60, "")), (4, Out("a", 100, "")), (2, Promise("b", "fish", 30, "")),
            (3, Spend("food", 5, "")), (5, Lessen("b", 10, "")), (3, Spend("roof", 100, "")), (6, Spend("fish", 1, ""))]

    def test_taken_at_each_date(self):
        found = dated(self.rows, [("food", 1, 10, 999)])
        self.assertEqual([60, 90, 95, 135, 125, 126, 126, 126, 126, 126], by_dates(found.taken, 0))

    def test_first_and_last_day(self):
        found = dated(self.rows, [("food", 2, 5, 999), ("food", 3, 3, 999), ("food", 4, 6, 999)])
        self.assertEqual([30, 35, 75, 65], [found.taken(0, date) for date in [2, 3, 4, 5]])
        self.assertEqual(5, found.taken(1, 3))
        self.assertEqual([40, 30, 31], [found.taken(2, date) for date in [4, 5, 6]])
        for k, dates in enumerate([[1, 6, 7, 10], [1, 2, 4, 5], [1, 3, 7]]):
            for date in dates:
                refused(self, NoDay, found.taken, k, date)

    def test_of_all_heads_under_it(self):
        found = dated(self.rows, [(name, 1, 10, 999) for name in ["all", "food", "fish", "bread", "roof", "gifts"]])
        self.assertEqual([226, 126, 21, 0, 100, 0], [found.taken(k, 10) for k in range(6)])

    def test_two_alike(self):
        found = dated(self.rows, [("fish", 1, 10, 20), ("fish", 1, 10, 20)])
        self.assertEqual((2, ("limit", 0)), found.breach())
        self.assertEqual((0, 0), (found.taken(0, 1), found.taken(1, 1)))

    def test_below_nought_where_the_promise_is_dated_ahead(self):
        found = dated([(1, Give("food", 9, "")), (2, Promise("a", "food", 9, "")), (4, Lessen("a", 5, "")),
                       (6, Out("a", 6, ""))], [("food", 3, 10, 0)])
        self.assertIsNone(found.breach())
        self.assertEqual([0, -5, -5, -3, -3, -3, -3, -3], [found.taken(0, date) for date in range(3, 11)])

    def test_gives_holds_and_moves_take_nothing(self):
        found = dated([(1, Give("food", 9, "")), (1, Hold("food", 5, 3, "")), (1, Move("food", "roof", 2, ""))],
                      [("all", 1, 10, 0)])
        self.assertIsNone(found.breach())
        self.assertEqual([0] * 10, by_dates(found.taken, 0))

    def test_an_out_of_what_was_promised_takes_nothing_more(self):
        found = dated([(1, Give("food", 9, "")), (1, Promise("a", "food", 9, "")), (2, Out("a", 9, ""))],
                      [("food", 1, 1, 9), ("food", 2, 10, 0)])
        self.assertIsNone(found.breach())
        self.assertEqual((9, 0), (found.taken(0, 1), found.taken(1, 2)))

    def test_just_at_its_most_and_above(self):
        rows = [(1, Give("food", 9, "")), (3, Spend("food", 5, ""))]
        self.assertIsNone(dated(rows, [("food", 1, 10, 5)]).breach())
        self.assertEqual((3, ("limit", 0)), dated(rows, [("food", 1, 10, 4)]).breach())
        self.assertEqual((3, ("limit", 0)), dated(rows, [("food", 3, 3, 0)]).breach())
        self.assertEqual((3, ("limit", 0)), dated(rows, [("food", 1, 3, 4)]).breach())
        self.assertEqual((3, ("limit", 0)), dated(rows, [("all", 3, 10, 4)]).breach())
        self.assertIsNone(dated(rows, [("food", 1, 2, 0), ("food", 4, 10, 0)]).breach())
        self.assertIsNone(dated(rows, [("fish", 1, 10, 0), ("roof", 1, 10, 0), ("gifts", 1, 10, 0)]).breach())

    def test_passed_on_a_day_and_not_at_the_end(self):
        rows = [(1, Give("food", 9, "")), (2, Promise("a", "food", 5, "")), (3, Lessen("a", 5, ""))]
        self.assertEqual((2, ("limit", 0)), dated(rows, [("food", 1, 10, 4)]).breach())


class Breach(unittest.TestCase):
    """[13]"""

    def test_left_at_just_nought_and_one_coin_below(self):
        for last in [Spend("food", 5, ""), Promise("a", "food", 5, ""), Hold("food", 5, 9, ""),
                     Move("food", "roof", 5, "")]:
            for coins, breach in [(6, None), (5, None), (4, (3, ("left", "food")))]:
                self.assertEqual(breach, dated([(1, Give("food", coins, "")), (3, last)]).breach())

    def test_each_head_by_itself(self):
        rows = [(1, Give("all", 99, "")), (1, Give("fish", 99, "")), (2, Spend("food", 1, ""))]
        self.assertEqual((2, ("left", "food")), dated(rows).breach())

    def test_money_that_comes_later(self):
        self.assertEqual((2, ("left", "food")), dated([(3, Give("food", 9, "")), (2, Spend("food", 1, ""))]).breach())
        self.assertIsNone(dated([(2, Spend("food", 1, "")), (2, Give("food", 9, ""))]).breach())

    def test_on_the_last_day_alone(self):
        self.assertEqual((10, ("left", "food")), dated([(10, Spend("food", 1, ""))]).breach())
        self.assertEqual((1, ("left", "food")), dated([(1, Spend("food", 1, ""))], days=1).breach())

    def test_held_by_a_rule(self):
        rows = [(1, Give("food", 10, "")), (4, Spend("food", 6, ""))]
        self.assertEqual((4, ("left", "food")), dated(rows, rules=[("food", 1, 2, 5)]).breach())
        self.assertIsNone(dated(rows, rules=[("food", 1, 2, 4)]).breach())

    def test_a_hold_that_ends(self):
        rows = [(1, Give("food", 10, "")), (1, Hold("food", 10, 4, "")), (4, Spend("food", 10, ""))]
        self.assertIsNone(dated(rows).breach())
        rows[2] = (3, Spend("food", 1, ""))
        self.assertEqual((3, ("left", "food")), dated(rows).breach())

    def test_places_of_one_day(self):
        limits = [("gifts", 1, 10, 0), ("food", 1, 10, 0), ("all", 1, 10, 0)]
        limit, other = (3, Spend("food", 5, "")), (3, Spend("gifts", 5, ""))
        gives = [(1, Give("food", 5, "")), (1, Give("gifts", 5, ""))]
        left, fault = (3, Spend("fish", 5, "")), (3, Out("a", 5, ""))
        self.assertEqual((3, ("limit", 1)), dated([*gives, limit], limits).breach())
        self.assertEqual((3, ("limit", 0)), dated([*gives, limit, other], limits).breach())
        self.assertEqual((3, ("limit", 0)), dated([*gives, other, limit], limits).breach())
        self.assertEqual((3, ("left", "fish")), dated([*gives, limit, other, left], limits).breach())
        self.assertEqual((3, ("left", "food")), dated([other, left, limit], limits).breach())
        self.assertEqual((3, ("promise", 3)), dated([limit, other, left, fault], limits).breach())
        self.assertEqual((3, ("promise", 0)), dated([fault, limit, other, left, fault], limits).breach())

    def test_the_least_number_of_the_faults_of_a_day(self):
        rows = [(3, Out("b", 5, "")), (3, Lessen("b", 5, ""))]
        self.assertEqual((3, ("promise", 0)), dated(rows).breach())
        self.assertEqual((3, ("promise", 0)), dated(rows[::-1]).breach())
        rows = [(2, Give("food", 9, "")), (4, Out("b", 5, "")), (3, Lessen("b", 5, ""))]
        self.assertEqual((3, ("promise", 2)), dated(rows).breach())

    def test_the_first_head_by_the_order_of_heads(self):
        for some in itertools.permutations([(2, Spend(name, 1, "")) for name in ["food", "fish", "gifts"]]):
            self.assertEqual((2, ("left", "food")), dated(some).breach())

    def test_the_least_day(self):
        limits = [("gifts", 1, 10, 0)]
        rows = [(6, Out("b", 5, "")), (5, Spend("all", 1, "")), (1, Give("gifts", 9, "")), (4, Spend("gifts", 9, ""))]
        self.assertEqual((4, ("limit", 0)), dated(rows, limits).breach())
        rows[3] = (7, Spend("gifts", 9, ""))
        self.assertEqual((5, ("left", "all")), dated(rows, limits).breach())
        rows[1] = (7, Spend("all", 1, ""))
        self.assertEqual((6, ("promise", 0)), dated(rows, limits).breach())


class Refused(unittest.TestCase):
    """[14]: the refusals of the eight questions, in their order"""

    def asked(self, found):
        return [getattr(found, name) for name in SIX]

    def test_passed_from_the_breachs_day_on(self):
        found = dated([(1, Give("food", 9, "")), (1, Promise("a", "food", 2, "")), (4, Spend("food", 8, "")),
                       (3, Spend("food", 1, ""))], [("food", 2, 6, 99)])
        self.assertEqual((4, ("left", "food")), found.breach())
        self.assertEqual([9, 0, 1, 2, 0, 6], [asked("food", 3) for asked in self.asked(found)])
        self.assertEqual([0, 1], [found.taken(0, 2), found.taken(0, 3)])
        self.assertEqual(2, found.word_left("a", 3))
        for date in [4, 5, 10]:
            for name in NAMES:
                for asked in self.asked(found):
                    passed(self, (4, ("left", "food")), asked, name, date)
            passed(self, (4, ("left", "food")), found.word_left, "a", date)
        for date in [4, 6]:
            passed(self, (4, ("left", "food")), found.taken, 0, date)

    def test_passed_with_the_place_of_a_fault_and_of_a_limit(self):
        found = dated([(2, Lessen("a", 1, ""))])
        passed(self, (2, ("promise", 0)), found.left, "food", 2)
        found = dated([(1, Give("food", 9, "")), (2, Spend("food", 1, ""))], [("gifts", 1, 9, 0), ("all", 1, 9, 0)])
        passed(self, (2, ("limit", 1)), found.given, "gifts", 10)

    def test_heads_ahead_of_dates_ahead_of_passed(self):
        broken = dated([(1, Spend("food", 5, ""))])
        for asked in self.asked(broken):
            refused(self, NoHead, asked, "none", 0)
            refused(self, NoHead, asked, "none", 1)
            refused(self, NoDay, asked, "food", 11)
            refused(self, Passed, asked, "food", 1)

    def test_numbers_ahead_of_dates_ahead_of_passed(self):
        broken = dated([(1, Spend("food", 5, ""))], [("food", 2, 5, 99)])
        refused(self, NoNumber, broken.taken, 1, 1)
        refused(self, NoNumber, broken.taken, 1, 3)
        refused(self, NoDay, broken.taken, 0, 1)
        refused(self, NoDay, broken.taken, 0, 6)
        refused(self, Passed, broken.taken, 0, 3)

    def test_dates_ahead_of_passed_ahead_of_words(self):
        broken = dated([(1, Promise("a", "food", 5, ""))])
        refused(self, NoDay, broken.word_left, "b", 11)
        refused(self, Passed, broken.word_left, "b", 1)
        refused(self, Passed, broken.word_left, None, 1)
        refused(self, NoDay, broken.word_left, None, None)

    def test_no_head(self):
        found = dated([(1, Give("food", 5, ""))])
        for head in NEARLY + things():
            for asked in self.asked(found):
                refused(self, NoHead, asked, head, 1)
                refused(self, NoHead, asked, head, 0)

    def test_no_day(self):
        found = dated([(1, Give("food", 5, "")), (1, Promise("a", "food", 5, ""))], [("food", 3, 5, 9)])
        for date in [0, -1, 11, 31, True, False, "1", ""] + things():
            for asked in self.asked(found):
                refused(self, NoDay, asked, "food", date)
            refused(self, NoDay, found.word_left, "a", date)
            refused(self, NoDay, found.taken, 0, date)
        for asked in self.asked(dated([], days=1)):
            self.assertEqual(0, asked("food", 1))
            refused(self, NoDay, asked, "food", 2)

    def test_no_number(self):
        found = dated([], [("food", 1, 5, 9), ("all", 1, 5, 9)])
        self.assertEqual([0, 0], [found.taken(0, 1), found.taken(1, 1)])
        for k in [2, -1, 6, "0", ""] + things():
            if not is_nought(k):
                refused(self, NoNumber, found.taken, k, 1)
                refused(self, NoNumber, found.taken, k, 99)
        refused(self, NoNumber, dated([]).taken, 0, 1)

    def test_no_promise(self):
        found = dated([(1, Give("food", 9, "")), (4, Promise("food", "food", 5, "")), (5, Out("food", 5, ""))])
        self.assertEqual([5, 0, 0], [found.word_left("food", date) for date in [4, 5, 10]])
        for date in [1, 2, 3]:
            refused(self, NoPromise, found.word_left, "food", date)
        for word in NEARLY + things():
            refused(self, NoPromise, found.word_left, word, 10)


class Rows(unittest.TestCase):
    """[3], [14]: what is no list of rows"""

    def no_rows(self, rows):
        refused(self, NoEntry, Dated, a_year(), rows)

    def test_forty_and_one_more(self):
        rows = [(1, Give("gifts", 1, ""))] * 40
        self.assertEqual(40, Dated(a_year(), rows).given("gifts", 10))
        self.assertEqual((1, ("promise", 39)), Dated(a_year(), rows[1:] + [(1, Out("a", 1, ""))]).breach())
        self.no_rows(rows + rows[:1])

    def test_no_list(self):
        row = (1, Give("food", 5, ""))
        for rows in [(row,), (), {}, {1: Give("food", 5, "")}, set(), "", None, row, row[1], 0]:
            self.no_rows(rows)
        for rows in things():
            if rows != []:
                self.no_rows(rows)

    def test_rows_too_short_too_long_and_no_tuples(self):
        give = Give("food", 5, "")
        for row in [(), (1,), (give,), (1, give, 1), (1, 1, give), [1, give], {1: give}, give, 1, "ab", (give, 1)]:
            self.no_rows([row])
            self.no_rows([(1, give), row])
            self.no_rows([row, (1, give)])

    def test_things_in_each_place(self):
        give = Give("gifts", 5, "")
        for thing in things():
            self.no_rows([thing])
            self.no_rows([(1, give), thing])
            self.no_rows([(thing, give)])
            self.no_rows([(1, give), (thing, give)])
        for thing in no_entries():
            self.no_rows([(1, thing)])
            self.no_rows([(1, give), (1, thing)])

    def test_dates(self):
        for date in [0, -1, 11, True, False, "1", None]:
            self.no_rows([(date, Give("food", 5, ""))])

    def test_told_in_the_place_of_entries(self):
        for entry in every_entry():
            self.no_rows([(1, entry.told())])
            self.no_rows([(1, list(entry.told()))])
            self.no_rows([(1, (entry,))])
        self.no_rows([(1, Entry())])

    def test_entries_that_do_not_fit(self):
        for entry in [Give("none", 5, ""), Hold("none", 5, 5, ""), Spend("foods", 5, ""), Promise("food", "a", 5, ""),
                      Move("food", "none", 5, ""), Move("none", "food", 5, ""), Hold("food", 5, 2, ""),
                      Hold("food", 5, 3, ""), Hold("food", 5, 12, "")]:
            self.no_rows([(3, entry)])
        self.assertIsNotNone(Dated(a_year(), [(3, Hold("food", 5, 4, "")), (3, Hold("food", 5, 11, ""))]).breach())

    def test_entries_that_fit_with_no_promise_are_faults(self):
        self.assertEqual((3, ("promise", 0)), Dated(a_year(), [(3, Lessen("none", 5, ""))]).breach())


class NothingChanges(unittest.TestCase):
    """[2]"""

    rows = [(1, Give("food", 9, "")), (2, Promise("a", "food", 5, "")), (3, Out("a", 7, "")), (5, Spend("roof", 1, ""))]

    def asked(self, found):
        return (found.breach(), [getattr(found, name)(head, date) for name in SIX for head in NAMES
                                 for date in [1, 2, 3, 4]], found.word_left("a", 3), found.taken(0, 3))

    def made(self, rows):
        return Dated(Year(10, HEADS, [("food", 1, 10, 99)], []), rows)

    def test_rows_are_unchanged_and_changed_afterwards_change_nothing(self):
        rows = list(self.rows)
        found = self.made(rows)
        first = self.asked(found)
        self.assertEqual(self.rows, rows)
        rows.append((1, Spend("food", 9, "")))
        rows[0] = (2, Give("food", 1, ""))
        self.assertEqual(first, self.asked(found))
        rows.clear()
        self.assertEqual(first, self.asked(found))

    def test_rows_that_are_refused_are_unchanged(self):
        rows = [*self.rows, [1, 2]]
        refused(self, NoEntry, self.made, rows)
        self.assertEqual([*self.rows, [1, 2]], rows)

    def test_asked_again_the_same_is_told(self):
        found, other = self.made(list(self.rows)), self.made([])
        first = self.asked(found)
        other.given("food", 1)
        refused(self, NoPromise, other.word_left, "a", 3)
        refused(self, Passed, found.left, "food", 5)
        refused(self, NoHead, found.left, "none", 1)
        self.assertEqual(first, self.asked(found))
        self.assertEqual(first, self.asked(self.made(list(self.rows))))

    def test_one_entry_in_several_rows(self):
        give = Give("food", 9, "")
        found = self.made([(1, give), (4, give)])
        self.assertEqual([9, 18], [found.given("food", 3), found.given("food", 4)])


if __name__ == "__main__":
    unittest.main()
