"""[2], [26]: a year carried into the next one."""

import unittest

from knotpurse.books import Book
from knotpurse.carrying import carried
from knotpurse.entries import Give, Hold, Lessen, Move, Out, Promise, Spend
from knotpurse.errors import NoEntry, NoYear
from knotpurse.years import Year
from things import as_it_was, book_of, passed, refused, things, told_by

MOST = 10 ** 12
ALL = 10 ** 15
HEADS = [("all", ""), ("food", "all"), ("gifts", "")]


def a_year(days=5, limits=(), rules=(), heads=HEADS):
    return Year(days, list(heads), list(limits), list(rules))


def keeping(food=(1, 1, ALL), gifts=(1, 1, ALL)):
    return [("all", 1, 1, ALL), ("food", *food), ("gifts", *gifts)]


def given(head, coins):
    return ("in", 1, 1, ("give", head, coins, "carried"))


def promised(word, head, coins):
    return ("in", 1, 1, ("promise", word, head, coins, "carried"))


def rich_book():
    """Food has 68 left, 10 held and 10 promised at the last day, gifts have 6 left and 3 promised."""
    return book_of(a_year(), (2, 1, Give("food", 100, "")), (2, 2, Hold("food", 10, 6, "")),
                   (3, 2, Promise("b", "food", 20, "")), (3, 3, Promise("a", "food", 15, "")),
                   (4, 4, Out("a", 5, "")), (4, 4, Lessen("b", 20, "")), (5, 4, Spend("food", 7, "")),
                   (5, 5, Give("gifts", 9, "")), (5, 5, Promise("c", "gifts", 3, "")))


class Kept(unittest.TestCase):
    def of_food(self, over, part, whole, most):
        """What is kept and what falls of so much that is over."""
        book = book_of(a_year(), (1, 1, Give("food", over, "")))
        other, fallen = carried(book, keeping((part, whole, most)), a_year())
        self.assertEqual(["all", "food", "gifts"], [head for head, coins in fallen])
        self.assertEqual([0, 0], [fallen[0][1], fallen[2][1]])
        kept = other.sums("food", 1, 1)["given"]
        self.assertEqual([given("food", kept)] if kept else [], other.lines())
        return (kept, fallen[1][1])

    def test_parts(self):
        for over, part, whole, told in [(10, 1, 2, (5, 5)), (11, 1, 2, (5, 6)), (10, 0, 1, (0, 10)),
                                        (10, 0, 1000, (0, 10)), (10, 1, 1, (10, 0)), (10, 1000, 1000, (10, 0)),
                                        (10, 999, 1000, (9, 1)), (999, 1, 1000, (0, 999)), (1000, 1, 1000, (1, 999)),
                                        (10, 2, 3, (6, 4)), (MOST, 1, 3, (MOST // 3, MOST - MOST // 3))]:
            self.assertEqual(told, self.of_food(over, part, whole, ALL), (over, part, whole))

    def test_most(self):
        for part, whole, most, told in [(1, 1, 0, (0, 10)), (1, 1, 1, (1, 9)), (1, 2, 4, (4, 6)), (1, 2, 5, (5, 5)),
                                        (1, 2, 6, (5, 5)), (0, 1, 6, (0, 10)), (1, 1, 10, (10, 0))]:
            self.assertEqual(told, self.of_food(10, part, whole, most), (part, whole, most))

    def test_over_is_left_and_held(self):
        book = book_of(a_year(rules=[("food", 1, 2, 6), ("gifts", 1, 2, 5)]), (1, 1, Give("food", 9, "")),
                       (1, 1, Give("gifts", 9, "")), (5, 3, Hold("food", 5, 6, "")), (5, 3, Hold("gifts", 4, 5, "")))
        self.assertEqual([0, 9], [book.sums(head, 5, 5)["left"] for head in ["food", "gifts"]])
        other, fallen = carried(book, keeping((1, 3, ALL), (2, 3, 5)), a_year())
        self.assertEqual([given("food", 3), given("gifts", 5)], other.lines())
        self.assertEqual([("all", 0), ("food", 6), ("gifts", 4)], fallen)

    def test_the_last_day_of_the_books_year_counts(self):
        book = book_of(a_year(), (5, 5, Give("food", 9, "")), (5, 1, Give("food", 4, "")), (5, 5, Spend("food", 2, "")))
        for days in [1, 5, 30]:
            other, fallen = carried(book, keeping(), a_year(days))
            self.assertEqual([given("food", 11)], other.lines())
            self.assertEqual(days, other.year.days)

    def test_moved_money_is_kept_where_it_is(self):
        book = book_of(a_year(), (1, 1, Give("all", 9, "")), (1, 1, Move("all", "food", 4, "")),
                       (2, 2, Move("food", "gifts", 1, "")))
        other, fallen = carried(book, keeping((1, 2, ALL)), a_year())
        self.assertEqual([given("all", 5), given("food", 1), given("gifts", 1)], other.lines())
        self.assertEqual([("all", 0), ("food", 2), ("gifts", 0)], fallen)

    def test_an_empty_book(self):
        other, fallen = carried(Book(a_year()), keeping(), a_year(7))
        self.assertEqual(([], [("all", 0), ("food", 0), ("gifts", 0)]), (other.lines(), fallen))

    def test_by_the_live_entries(self):
        book = rich_book()
        book.back(5, 6)
        book.right(5, 7, 5, Give("gifts", 5, ""))
        other, fallen = carried(book, keeping(), a_year())
        self.assertEqual([given("food", 95), promised("a", "food", 10), given("gifts", 5), promised("c", "gifts", 3)],
                         other.lines())


class Promises(unittest.TestCase):
    def test_the_lines_in_their_order(self):
        other, fallen = carried(rich_book(), keeping((1, 2, ALL), (1, 4, ALL)), a_year())
        self.assertEqual([given("food", 49), promised("a", "food", 10), given("gifts", 4), promised("c", "gifts", 3)],
                         other.lines())
        self.assertEqual([("all", 0), ("food", 39), ("gifts", 5)], fallen)

    def test_kept_nothing_and_promised_something(self):
        for food in [(0, 1, ALL), (1, 1, 0)]:
            other, fallen = carried(rich_book(), keeping(food, food), a_year())
            self.assertEqual([given("food", 10), promised("a", "food", 10), given("gifts", 3),
                              promised("c", "gifts", 3)], other.lines())
            self.assertEqual([("all", 0), ("food", 78), ("gifts", 6)], fallen)

    def test_kept_and_promised_together_nothing(self):
        book = book_of(a_year(), (1, 1, Give("food", 9, "")), (1, 1, Promise("a", "food", 4, "")),
                       (1, 1, Promise("b", "food", 4, "")), (2, 2, Lessen("a", 4, "")), (2, 2, Out("b", 5, "")),
                       (2, 2, Give("gifts", 1, "")))
        other, fallen = carried(book, keeping((1, 10, ALL)), a_year())
        self.assertEqual(([given("gifts", 1)], [("all", 0), ("food", 4), ("gifts", 0)]), (other.lines(), fallen))

    def test_words_in_their_order(self):
        words = ["m", "b", "z", "ab", "a", "zz", "aa"]
        rows = [(1, 1, Give("food", 99, "")), (1, 1, Give("gifts", 99, ""))]
        rows += [(1, 1, Promise(word, "food" if at % 2 else "gifts", at + 1, "note")) for at, word in enumerate(words)]
        other, fallen = carried(book_of(a_year(), *rows), keeping((0, 1, 0), (0, 1, 0)), a_year())
        self.assertEqual([given("food", 12), promised("ab", "food", 4), promised("b", "food", 2),
                          promised("zz", "food", 6), given("gifts", 16), promised("a", "gifts", 5),
                          promised("aa", "gifts", 7), promised("m", "gifts", 1), promised("z", "gifts", 3)],
                         other.lines())

    def test_several_of_a_head_some_with_nothing_left(self):
        rows = [(1, 1, Give("food", 50, ""))]
        rows += [(1, 1, Promise(word, "food", 5, "")) for word in ["e", "d", "c", "b", "a"]]
        rows += [(2, 2, Out("e", 5, "")), (2, 2, Out("d", 4, "")), (2, 2, Out("c", 6, "")), (2, 2, Lessen("b", 5, ""))]
        other, fallen = carried(book_of(a_year(), *rows), keeping((0, 1, 0)), a_year())
        self.assertEqual([given("food", 6), promised("a", "food", 5), promised("d", "food", 1)], other.lines())
        self.assertEqual(29, fallen[1][1])

    def test_a_third_year(self):
        second, fallen = carried(rich_book(), keeping((1, 2, ALL)), a_year(3, rules=[("gifts", 1, 2, 3)]))
        second.enter(2, 2, Out("a", 4, ""))
        second.enter(3, 2, Promise("aa", "food", 5, ""))
        third, more = carried(second, keeping((1, 3, 10), (1, 2, ALL)), a_year(9))
        self.assertEqual([given("food", 21), promised("a", "food", 6), promised("aa", "food", 5), given("gifts", 6),
                          promised("c", "gifts", 3)], third.lines())
        self.assertEqual([("all", 0), ("food", 24), ("gifts", 3)], more)
        self.assertEqual((0, 1), (second.sums("food", 1, 1)["spent"], third.today()))

    def test_it_goes_on(self):
        other, fallen = carried(rich_book(), keeping(), a_year(30))
        self.assertEqual((4, None), other.enter(2, 1, Give("food", 1, "")))
        self.assertEqual((5, None), other.enter(2, 2, Out("c", 4, "")))
        self.assertEqual((6, 0), other.enter(30, 1, Give("food", 88, "carried")))


class Refused(unittest.TestCase):
    def test_a_sum_above_the_greatest(self):
        rows = [(1, 1, Give("food", MOST, "")), (1, 1, Give("food", 1, ""))]
        book = book_of(a_year(), *rows)
        as_it_was(self, book, NoEntry, carried, book, keeping(), a_year())
        other, fallen = carried(book, keeping((1, 1, MOST)), a_year())
        self.assertEqual(([given("food", MOST)], 1), (other.lines(), fallen[1][1]))
        book.enter(1, 1, Promise("a", "food", MOST, ""))
        refused(self, NoEntry, carried, book, keeping(), a_year())
        other, fallen = carried(book, keeping((0, 1, ALL)), a_year())
        self.assertEqual([given("food", MOST), promised("a", "food", MOST)], other.lines())
        book.enter(1, 1, Give("food", 7, ""))
        refused(self, NoEntry, carried, book, keeping((1, 1, 1)), a_year())

    def test_money_that_a_rule_holds_back(self):
        # Of 12 given, 10 are promised: 2 may be held back and no more.
        book, rules = rich_book(), keeping((1, 39, ALL))
        for held in [("food", 0, 1, 6), ("food", 1, 5, 6), ("food", 1, 5, 2), ("all", 1, 1, 6)]:
            other, fallen = carried(book, rules, a_year(rules=[held]))
            self.assertEqual([given("food", 12), promised("a", "food", 10)], other.lines()[:2])
        for held in [("food", 1, 4, 6), ("food", 1, 4, 2), ("food", 1, 1, 2)]:
            passed(self, (1, ("left", "food")), carried, book, rules, a_year(rules=[held]))
        passed(self, (1, ("left", "gifts")), carried, book, rules, a_year(rules=[("gifts", 7, 9, 2)]))

    def test_a_limit_of_the_new_year(self):
        book = rich_book()
        self.assertEqual(4, len(carried(book, keeping(), a_year(limits=[("all", 1, 1, 10)]))[0].lines()))
        self.assertEqual(4, len(carried(book, keeping(), a_year(limits=[("all", 2, 5, 0)]))[0].lines()))
        limits = [("gifts", 1, 5, 3), ("all", 1, 5, 9)]
        passed(self, (1, ("limit", 1)), carried, book, keeping(), a_year(limits=limits))
        passed(self, (1, ("limit", 0)), carried, book, keeping(), a_year(limits=[("gifts", 1, 5, 2)]))

    def test_the_first_line_refused_counts(self):
        book = book_of(a_year(), (1, 1, Give("food", 9, "")), (1, 1, Promise("a", "food", 5, "")),
                       (1, 1, Give("gifts", MOST, "")), (1, 1, Give("gifts", 1, "")))
        passed(self, (1, ("left", "food")), carried, book, keeping(), a_year(rules=[("food", 1, 1, 3)]))
        refused(self, NoEntry, carried, book, keeping(), a_year(rules=[("food", 1, 3, 3)]))
        book = book_of(a_year(), (1, 1, Give("food", MOST, "")), (1, 1, Give("food", 1, "")),
                       (1, 1, Give("gifts", 9, "")), (1, 1, Promise("a", "gifts", 5, "")))
        refused(self, NoEntry, carried, book, keeping(), a_year(rules=[("gifts", 1, 1, 3)]))
        passed(self, (1, ("left", "gifts")), carried, book, keeping((1, 1, 5)), a_year(rules=[("gifts", 1, 1, 3)]))

    def test_other_years(self):
        book = rich_book()
        for heads in [HEADS[:2], [*HEADS, ("more", "")], [HEADS[0], HEADS[2], HEADS[1]], [HEADS[2], *HEADS[:2]],
                      [("all", ""), ("food", ""), ("gifts", "")], [("all", ""), ("food", "all"), ("gifts", "all")],
                      [("all", ""), ("foods", "all"), ("gifts", "")]]:
            as_it_was(self, book, NoYear, carried, book, keeping(), a_year(heads=heads))
        for thing in things() + [HEADS, tuple(HEADS), (5, HEADS, [], [])]:
            as_it_was(self, book, NoYear, carried, book, keeping(), thing)

    def test_other_rules(self):
        book = rich_book()
        good = keeping()
        for rules in [good[:2], good[1:], good + good[:1], [], tuple(good), good[::-1],
                      [good[0], good[2], good[1]], [good[0], good[1], good[1]], [list(row) for row in good]]:
            as_it_was(self, book, NoYear, carried, book, rules, a_year())
        for row in [("food", 1, 1), ("food", 1, 1, ALL, ALL), ("food", 2, 1, ALL), ("food", -1, 1, ALL),
                    ("food", 0, 0, ALL), ("food", 0, -1, ALL), ("food", 1, 1001, ALL), ("food", 1, 1, -1),
                    ("food", 1, 1, ALL + 1), ("food", True, 1, ALL), ("food", 0, True, ALL), ("food", 1, 1, True),
                    ("food", False, 1, ALL), ("food", 1, 1, False), ("food", "1", 1, ALL), ("food", 1, "1", ALL),
                    ("food", 1, 1, "1"), ("Food", 1, 1, ALL), ("", 1, 1, ALL), ["food", 1, 1, ALL], "food", ()]:
            as_it_was(self, book, NoYear, carried, book, [good[0], row, good[2]], a_year())
        for row in [("food", 0, 1, 0), ("food", 1000, 1000, ALL), ("food", 0, 1000, ALL)]:
            self.assertIs(tuple, type(carried(book, [good[0], row, good[2]], a_year())))

    def test_things_of_every_kind(self):
        book = rich_book()
        good = keeping()
        for thing in things():
            refused(self, NoYear, carried, book, thing, a_year())
            refused(self, NoYear, carried, book, [good[0], thing, good[2]], a_year())
            for at in range(4):
                row = list(good[1])
                # A part and a most may be nought.
                if at in (0, 2) or type(thing) is not int or thing != 0:
                    row[at] = thing
                    refused(self, NoYear, carried, book, [good[0], tuple(row), good[2]], a_year())
            refused(self, NoYear, carried, book, thing, thing)
            if not isinstance(thing, Book):
                refused(self, NoYear, carried, thing, good, a_year())

    def test_no_year_ahead_of_all_else(self):
        book = book_of(a_year(), (1, 1, Give("food", MOST, "")), (1, 1, Give("food", 1, "")))
        refused(self, NoEntry, carried, book, keeping(), a_year())
        refused(self, NoYear, carried, book, keeping()[:2], a_year())
        refused(self, NoYear, carried, book, keeping(gifts=(1, 0, 1)), a_year())
        refused(self, NoYear, carried, book, keeping(), a_year(heads=HEADS[:2]))
        book = rich_book()
        refused(self, NoYear, carried, book, keeping(gifts=(2, 1, 1)), a_year(rules=[("food", 1, 1, 2)]))


class Told(unittest.TestCase):
    def test_kinds(self):
        told = carried(rich_book(), keeping(), a_year())
        self.assertEqual([tuple, Book, list], [type(one) for one in (told, *told)])
        for row in told[1]:
            self.assertEqual([tuple, str, int], [type(one) for one in (row, *row)])

    def test_the_new_books_year(self):
        new = a_year(8, [("food", 1, 8, 900)], [("gifts", 1, 4, 9)])
        other, fallen = carried(rich_book(), keeping(), new)
        self.assertEqual((8, HEADS, [("food", 1, 8, 900)], [("gifts", 1, 4, 9)]),
                         (other.year.days, other.year.heads, other.year.limits, other.year.rules))
        self.assertEqual(2, other.sums("gifts", 1, 1)["held"])

    def test_nothing_handed_in_is_changed(self):
        book, rules, new = rich_book(), keeping((1, 2, 9)), a_year(8)
        before = told_by(book)
        carried(book, rules, new)
        self.assertEqual(keeping((1, 2, 9)), rules)
        self.assertEqual(before, told_by(book))
        self.assertEqual((8, HEADS, [], []), (new.days, new.heads, new.limits, new.rules))

    def test_what_is_done_later_changes_nothing(self):
        book, rules, new = rich_book(), keeping((1, 2, 9)), a_year(8)
        other, fallen = carried(book, rules, new)
        before = told_by(other)
        rules.clear()
        book.enter(5, 5, Spend("food", 60, ""))
        self.assertEqual(before, told_by(other))
        lines = book.lines()
        other.enter(2, 2, Spend("food", 3, ""))
        fallen.clear()
        self.assertEqual(lines, book.lines())

    def test_asked_again_the_same_is_told(self):
        book = rich_book()
        first, fallen = carried(book, keeping(), a_year())
        before = told_by(first)
        fallen.append("more")
        first.enter(3, 3, Spend("food", 1, ""))
        carried(book, keeping((0, 1, 0)), a_year(9))
        second, again = carried(book, keeping(), a_year())
        self.assertEqual((before, fallen[:-1]), (told_by(second), again))
        self.assertIsNot(first, second)


if __name__ == "__main__":
    unittest.main()
