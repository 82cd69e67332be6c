"""[2], [3], [5], [6]: years, and what is refused with NoYear and NoHead."""

import copy
import unittest

from knotpurse.errors import NoHead, NoYear
from knotpurse.years import Year
from things import HEADS, LIMITS, RULES, a_year, refused, things

NAMES = ["all", "food", "fish", "bread", "roof", "gifts"]
ONE = [("a", "")]
# Four fractions each, with wholes that share nothing: beside 1 by one part of the product of the wholes.
JUST_ABOVE = [(503, 907), (42, 911), (164, 929), (219, 983)]
JUST_BELOW = [(44, 907), (311, 911), (17, 919), (578, 977)]
EIGHT = [("a", ""), ("b", "a"), ("c", "b"), ("d", "c"), ("e", "d"), ("f", "e"), ("g", "f"), ("h", "g")]


class Made(unittest.TestCase):
    def made(self, days, heads, limits, rules):
        year = Year(days, heads, limits, rules)
        self.assertEqual((days, heads, limits, rules), (year.days, year.heads, year.limits, year.rules))
        for rows in (year.heads, year.limits, year.rules):
            self.assertIsInstance(rows, list)
            self.assertTrue(all([isinstance(row, tuple) for row in rows]))
        return year

    def test_an_ordinary_year(self):
        self.made(10, HEADS, LIMITS, RULES)

    def test_days_1_and_30(self):
        self.made(1, ONE, [("a", 1, 1, 5)], [("a", 1, 2, 2)])
        self.made(30, ONE, [("a", 30, 30, 5)], [("a", 1, 2, 31)])

    def test_one_and_eight_heads(self):
        self.made(5, ONE, [], [])
        self.made(5, EIGHT, [], [])
        self.made(5, [(name, "") for name, upper in EIGHT], [], [])
        self.made(5, [("a", "")] + [(name, "a") for name, upper in EIGHT[1:]], [], [])

    def test_names_of_one_and_eight_letters(self):
        self.made(5, [("z", ""), ("abcdefgh", "z"), ("zzzzzzzz", "abcdefgh"), ("year", ""), ("in", "")], [], [])

    def test_every_small_letter(self):
        for letter in "abcdefghijklmnopqrstuvwxyz":
            self.made(5, [(letter, "")], [], [])

    def test_none_and_six_limits_two_alike(self):
        self.made(5, ONE, [], [])
        self.made(5, ONE, [("a", 1, 5, 7)] * 2, [])
        self.made(5, ONE, [("a", 1, 5, most) for most in range(6)], [])
        self.made(5, ONE, [("a", 2, 3, 7)] * 6, [])

    def test_none_and_four_rules_two_alike(self):
        self.made(5, ONE, [], [])
        self.made(5, ONE, [], [("a", 1, 2, 3)] * 2)
        self.made(5, ONE, [], [("a", 1, 4, until) for until in (2, 3, 4, 6)])
        self.made(5, ONE, [], [("a", 1, 4, 3)] * 4)

    def test_edges_of_a_limit(self):
        for limit in [("a", 1, 1, 0), ("a", 5, 5, 0), ("a", 1, 5, 10 ** 15), ("a", 3, 3, 1), ("a", 4, 5, 1)]:
            self.made(5, ONE, [limit], [])

    def test_edges_of_a_rule(self):
        for rule in [("a", 0, 1, 2), ("a", 1, 1, 2), ("a", 0, 1000, 6), ("a", 1000, 1000, 6), ("a", 999, 1000, 3)]:
            self.made(5, ONE, [], [rule])

    def test_fractions_that_come_to_one_at_most(self):
        for parts in [[(1, 2), (1, 2)], [(1, 3), (1, 3), (1, 3)], [(1, 2), (1, 3), (1, 6)], [(1, 1), (0, 7)],
                      [(1, 10), (2, 10), (3, 10), (4, 10)], [(1, 7), (2, 7), (4, 7)], [(999, 1000), (1, 1000)],
                      [(1, 49), (48, 49)], [(1, 2), (1, 4), (1, 8), (1, 8)], [(0, 1)] * 4, JUST_BELOW]:
            self.made(5, ONE, [], [("a", part, whole, 3) for part, whole in parts])

    def test_fractions_of_other_heads_do_not_count(self):
        heads = [("a", ""), ("b", "a")]
        self.made(5, heads, [], [("a", 1, 2, 3), ("b", 1, 1, 3), ("a", 1, 2, 4)])
        self.made(5, heads, [], [("a", 1, 1, 3), ("b", 1, 1, 3)])

    def test_limits_and_rules_at_any_head(self):
        for name in NAMES:
            self.made(10, HEADS, [(name, 1, 10, 3)], [(name, 1, 3, 4)])


class Refused(unittest.TestCase):
    def no_year(self, days, heads, limits, rules):
        refused(self, NoYear, Year, days, heads, limits, rules)

    def test_days(self):
        for days in [0, 31, -1, True, "5", "1"] + things():
            self.no_year(days, ONE, [], [])

    def test_a_truth_for_one_day(self):
        self.no_year(True, ONE, [("a", 1, 1, 1)], [])

    def test_too_few_and_too_many(self):
        self.no_year(5, [], [], [])
        self.no_year(5, EIGHT + [("i", "")], [], [])
        self.no_year(5, ONE, [("a", 1, 5, 7)] * 7, [])
        self.no_year(5, ONE, [], [("a", 0, 1, 3)] * 5)

    def test_names(self):
        for name in ["", "abcdefghi", "A", "Food", "fooD", "f1", "1", "a b", " a", "a ", "a\n", "\na", "a\t",
                     "a-b", "a_b", "`", "{", "-", " "]:
            self.no_year(5, [(name, "")], [], [])
            self.no_year(5, [("z", ""), (name, "z")], [], [])

    def test_a_name_that_stands_twice(self):
        self.no_year(5, [("a", ""), ("a", "")], [], [])
        self.no_year(5, [("a", ""), ("b", ""), ("a", "b")], [], [])
        self.no_year(5, [("a", ""), ("a", "a")], [], [])

    def test_a_head_above_that_is_later_itself_or_none(self):
        for heads in [[("a", "b"), ("b", "")], [("a", "a")], [("a", ""), ("b", "b")], [("a", "c")],
                      [("a", ""), ("b", "c"), ("c", "")], [("ab", ""), ("b", "a")], [("a", ""), ("b", "A")],
                      [("a", ""), ("b", " ")], [("a", ""), ("b", "a ")], [("a", ""), ("b", "aa")]]:
            self.no_year(5, heads, [], [])

    def test_edges_of_a_limit(self):
        for limit in [("a", 0, 5, 1), ("a", -1, 5, 1), ("a", 1, 6, 1), ("a", 6, 6, 1), ("a", 3, 2, 1), ("a", 5, 4, 1),
                      ("a", 1, 0, 1), ("a", 1, 5, -1), ("a", 1, 5, 10 ** 15 + 1), ("b", 1, 5, 1), ("", 1, 5, 1),
                      ("A", 1, 5, 1), ("a ", 1, 5, 1), ("aa", 1, 5, 1), ("a", True, 5, 1), ("a", 1, True, 1),
                      ("a", 1, 5, True), ("a", 1, 5, False), ("a", "1", 5, 1), ("a", 1, "5", 1), ("a", 1, 5, "1")]:
            self.no_year(5, ONE, [limit], [])
            self.no_year(5, ONE, [("a", 1, 5, 1), limit], [])

    def test_edges_of_a_rule(self):
        for rule in [("a", -1, 2, 3), ("a", 3, 2, 3), ("a", 2, 1, 3), ("a", 0, 0, 3), ("a", 0, 1001, 3),
                     ("a", 1001, 1001, 3), ("a", 0, -1, 3), ("a", -1, -1, 3), ("a", 1, 2, 1), ("a", 1, 2, 0),
                     ("a", 1, 2, 7), ("a", 1, 2, -1), ("b", 1, 2, 3), ("", 1, 2, 3), ("A", 1, 2, 3), ("a ", 1, 2, 3),
                     ("a", True, 2, 3), ("a", False, 2, 3), ("a", 1, True, 3), ("a", 1, 2, True), ("a", "1", 2, 3),
                     ("a", 1, "2", 3), ("a", 1, 2, "3")]:
            self.no_year(5, ONE, [], [rule])
            self.no_year(5, ONE, [], [("a", 0, 1, 3), rule])

    def test_bounds_hang_on_the_days(self):
        self.no_year(1, ONE, [("a", 1, 2, 1)], [])
        self.no_year(1, ONE, [], [("a", 1, 2, 3)])
        self.no_year(30, ONE, [("a", 1, 31, 1)], [])
        self.no_year(30, ONE, [], [("a", 1, 2, 32)])

    def test_fractions_that_come_to_just_above_one(self):
        for parts in [[(1, 1), (1, 1000)], [(1, 2), (501, 1000)], [(998, 999), (1, 998)], [(1, 3), (1, 3), (334, 1000)],
                      [(1, 3), (1, 3), (1, 3), (1, 1000)], [(1, 1), (1, 1)], [(1, 2), (1, 2), (1, 2)], JUST_ABOVE]:
            self.no_year(5, ONE, [], [("a", part, whole, 3) for part, whole in parts])

    def test_fractions_of_one_head_that_stand_apart(self):
        heads = [("a", ""), ("b", "a")]
        self.no_year(5, heads, [], [("a", 1, 2, 3), ("b", 0, 1, 3), ("a", 501, 1000, 4)])
        self.no_year(5, heads, [], [("a", 0, 1, 3), ("b", 1, 2, 2), ("b", 501, 1000, 6)])

    def test_rows_too_short_too_long_and_no_tuples(self):
        for row in [(), ("a",), ("a", "", ""), ["a", ""], "a", "ab", {"a": ""}, {"a", ""}]:
            self.no_year(5, [row], [], [])
            self.no_year(5, ONE + [row], [], [])
        for row in [(), ("a", 1, 2), ("a", 1, 2, 3, 4), ("a",), ["a", 1, 2, 3], "abcd"]:
            self.no_year(5, ONE, [row], [])
            self.no_year(5, ONE, [], [row])

    def test_a_tuple_or_a_dict_is_no_list(self):
        self.no_year(5, (("a", ""),), [], [])
        self.no_year(5, {("a", ""): 1}, [], [])
        self.no_year(5, {("a", "")}, [], [])
        self.no_year(5, ONE, (), [])
        self.no_year(5, ONE, [], ())
        self.no_year(5, ONE, {}, [])
        self.no_year(5, ONE, [], {})
        self.no_year(5, ONE, set(), [])
        self.no_year(5, ONE, [], "")

    def test_things_for_the_lists_and_for_a_row(self):
        for thing in things():
            self.no_year(5, thing, [], [])
            self.no_year(5, [thing], [], [])
            self.no_year(5, ONE + [thing], [], [])
            if thing != []:
                self.no_year(5, ONE, thing, [])
                self.no_year(5, ONE, [], thing)
            self.no_year(5, ONE, [thing], [])
            self.no_year(5, ONE, [("a", 1, 5, 1), thing], [])
            self.no_year(5, ONE, [], [thing])
            self.no_year(5, ONE, [], [("a", 1, 2, 3), thing])

    def test_things_for_the_items_of_a_row(self):
        # A nought is a most and a part, so there it is left out.
        for thing in things():
            self.no_year(5, [(thing, "")], [], [])
            self.no_year(5, [("a", thing)], [], [])
            self.no_year(5, ONE + [("b", thing)], [], [])
            for at in range(4):
                limit, rule = ["a", 1, 5, 1], ["a", 1, 2, 3]
                limit[at] = rule[at] = thing
                nought = thing == 0 and thing is not False
                if not (nought and at == 3):
                    self.no_year(5, ONE, [tuple(limit)], [])
                if not (nought and at == 1):
                    self.no_year(5, ONE, [], [tuple(rule)])


class Tree(unittest.TestCase):
    def test_names(self):
        self.assertEqual(NAMES, a_year().names())
        self.assertEqual(["a"], Year(1, ONE, [], []).names())

    def test_above(self):
        year = a_year()
        self.assertEqual(["", "all", "food", "food", "all", ""], [year.above(name) for name in NAMES])

    def test_knots(self):
        year = a_year()
        self.assertEqual([["all"], ["food", "all"], ["fish", "food", "all"], ["bread", "food", "all"],
                          ["roof", "all"], ["gifts"]], [year.knots(name) for name in NAMES])

    def test_under(self):
        year = a_year()
        self.assertEqual([["all", "food", "fish", "bread", "roof"], ["food", "fish", "bread"], ["fish"], ["bread"],
                          ["roof"], ["gifts"]], [year.under(name) for name in NAMES])

    def test_under_goes_by_the_order_of_heads(self):
        year = Year(3, [("b", ""), ("z", "b"), ("q", ""), ("c", "z"), ("a", "b"), ("d", "q"), ("y", "z")], [], [])
        self.assertEqual(["b", "z", "c", "a", "y"], year.under("b"))
        self.assertEqual(["z", "c", "y"], year.under("z"))
        self.assertEqual(["q", "d"], year.under("q"))
        self.assertEqual(["y", "z", "b"], year.knots("y"))

    def test_a_chain_of_eight(self):
        year = Year(3, EIGHT, [], [])
        self.assertEqual(["h", "g", "f", "e", "d", "c", "b", "a"], year.knots("h"))
        self.assertEqual(["a", "b", "c", "d", "e", "f", "g", "h"], year.under("a"))
        self.assertEqual(["h"], year.under("h"))

    def test_kinds_of_what_is_told(self):
        year = a_year()
        for told in [year.names(), year.knots("fish"), year.under("food")]:
            self.assertIs(list, type(told))
            self.assertEqual([str], sorted({type(name) for name in told}, key=str))
        self.assertIs(str, type(year.above("fish")))
        self.assertIs(str, type(year.above("all")))

    def test_no_head(self):
        year = a_year()
        near = ["", "fod", "foods", "foo", "Food", "FOOD", " food", "food ", "food\n", "food\t", "al", "none", "ll"]
        for name in near + things():
            for asked in (year.above, year.knots, year.under):
                refused(self, NoHead, asked, name)

    def test_a_head_of_another_year_is_none(self):
        other = Year(10, [("other", "")], [], [])
        refused(self, NoHead, a_year().under, "other")
        refused(self, NoHead, other.knots, "food")


class NothingChanges(unittest.TestCase):
    def asked(self, year):
        return (year.days, list(year.heads), list(year.limits), list(year.rules), year.names(),
                [(year.above(name), year.knots(name), year.under(name)) for name in year.names()])

    def test_lists_handed_in_are_unchanged(self):
        heads, limits, rules = list(HEADS), list(LIMITS), list(RULES)
        self.asked(Year(10, heads, limits, rules))
        self.assertEqual((HEADS, LIMITS, RULES), (heads, limits, rules))

    def test_lists_that_are_refused_are_unchanged(self):
        wrong = [[("a", ""), ["b"]], [("a", 1, 2, 3), {}], [("a", 1, 2, 3), [1]]]
        handed = copy.deepcopy(wrong)
        refused(self, NoYear, Year, 5, handed[0], [], [])
        refused(self, NoYear, Year, 5, ONE, handed[1], [])
        refused(self, NoYear, Year, 5, ONE, [], handed[2])
        self.assertEqual(wrong, handed)

    def test_lists_changed_afterwards_change_nothing(self):
        heads, limits, rules = list(HEADS), list(LIMITS), list(RULES)
        year = Year(10, heads, limits, rules)
        heads.append(("late", ""))
        heads[0] = ("other", "")
        limits.clear()
        rules.append(("roof", 1, 1, 2))
        self.assertEqual(self.asked(a_year()), self.asked(year))

    def test_one_list_for_two_years(self):
        heads = list(HEADS)
        one, other = Year(10, heads, LIMITS, RULES), Year(10, heads, LIMITS, RULES)
        one.heads.append(("late", ""))
        one.limits.append(("all", 1, 1, 1))
        one.rules.append(("all", 1, 1, 2))
        self.assertEqual(self.asked(a_year()), self.asked(other))
        self.assertEqual(self.asked(a_year()), self.asked(Year(10, heads, LIMITS, RULES)))

    def test_lists_told_and_changed_change_nothing(self):
        year = a_year()
        for told in [year.names(), year.knots("fish"), year.under("food"), year.under("all")]:
            told.append("more")
            told[0] = "other"
        self.assertEqual(self.asked(a_year()), self.asked(year))

    def test_asked_again_the_same_is_told(self):
        year, other = a_year(), Year(3, EIGHT, [], [])
        first, second = self.asked(year), self.asked(other)
        refused(self, NoHead, year.above, "none")
        refused(self, NoYear, Year, 0, ONE, [], [])
        self.assertEqual((first, second), (self.asked(year), self.asked(other)))
        self.assertEqual((second, first), (self.asked(other), self.asked(year)))


if __name__ == "__main__":
    unittest.main()
