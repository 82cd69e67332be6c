"""[4], and [9] to [25] once more over drawn years and books: all that is told is as the model has it."""

import collections
import random
import unittest

import model
from draws import drawn_book, drawn_rows, drawn_step, drawn_told, drawn_year, expected, tried
from knotpurse.books import Book
from knotpurse.dated import Dated
from knotpurse.entries import Give, Out, Promise, read_entry
from knotpurse.errors import Full
from knotpurse.leanings import fills, may_be_back, needs
from knotpurse.years import Year
from things import SIX, all_sums, passed, refused, told_by


def dates(year):
    return range(1, year.days + 1)


class DatedByTheModel(unittest.TestCase):
    def is_told(self, found, breach, date, asked, told, *arguments):
        if breach and breach[0] <= date:
            passed(self, breach, asked, *arguments)
        else:
            self.assertEqual(told, asked(*arguments))

    def check(self, year, rows):
        found = Dated(year, [(date, read_entry(told)) for number, date, told in rows])
        breach = model.breach(year, rows)
        self.assertEqual(breach, found.breach(), rows)
        for date in dates(year):
            for head in year.names():
                sums = model.six(year, rows, head, date)
                for name in SIX:
                    self.is_told(found, breach, date, getattr(found, name), sums[name], head, date)
            for k, (at, first, last, most) in enumerate(year.limits):
                if first <= date <= last:
                    self.is_told(found, breach, date, found.taken, model.taken(year, rows, k, date), k, date)
            for word, left in model.walked(model.till(rows, date))[1].items():
                self.is_told(found, breach, date, found.word_left, left, word, date)
        return breach[1][0] if breach else None

    def test_drawn_rows(self):
        draw, seen = random.Random(9), collections.Counter()
        for many in range(300):
            year = drawn_year(draw)
            seen[self.check(year, drawn_rows(draw, year, draw.randint(0, 12)))] += 1
        for kind in [None, "promise", "left", "limit"]:
            self.assertLess(10, seen[kind], seen)

    def test_rows_in_any_order(self):
        """The sums hang on the entries and their dates alone."""
        draw = random.Random(10)
        for many in range(60):
            year = drawn_year(draw)
            rows = [(date, read_entry(told)) for number, date, told in drawn_rows(draw, year, 10)]
            one = Dated(year, rows)
            draw.shuffle(rows)
            other = Dated(year, rows)
            self.assertEqual(one.breach() is None, other.breach() is None)
            for date in dates(year):
                if one.breach() is None or date < one.breach()[0]:
                    for head in year.names():
                        self.assertEqual([getattr(one, name)(head, date) for name in SIX],
                                         [getattr(other, name)(head, date) for name in SIX])


class BooksByTheModel(unittest.TestCase):
    def check_lists(self, book):
        lines = book.lines()
        self.assertEqual(model.live(lines, 99), book.live())
        self.assertEqual(model.late(lines), book.late())
        self.assertEqual(lines[-1][1] if lines else 0, book.today())

    def test_each_step(self):
        draw, seen = random.Random(17), collections.Counter()
        for many in range(60):
            book = Book(drawn_year(draw))
            for number in range(100):
                step = drawn_step(draw, book)
                if draw.random() < 0.1:
                    step = (step[0], book.today() + 1, *step[2:])
                lines = book.lines()
                told = expected(book.year, lines, step)
                self.assertEqual(told, tried(book, step), (lines, step))
                self.assertEqual(len(lines) + (told[0] == "told"), len(book.lines()))
                self.assertEqual(lines, book.lines()[:len(lines)])
                seen[step[0], told[0]] += 1
            self.check_lists(book)
        for kind in ["told", "NoDay", "Passed"]:
            for word in ["enter", "back", "right"]:
                self.assertLess(3, seen[word, kind], seen)
        for pair in [("back", "Leaned"), ("right", "Leaned"), ("right", "Taken"), ("right", "NoPromise"),
                     ("enter", "Taken"), ("enter", "NoPromise"), ("back", "NoNumber"), ("right", "NoNumber"),
                     ("enter", "NoEntry"), ("right", "NoEntry"), ("enter", "Full"), ("back", "Full"),
                     ("right", "Full")]:
            self.assertLess(3, seen[pair], seen)

    def test_what_was_known(self):
        draw = random.Random(20)
        for many in range(40):
            book = drawn_book(draw, drawn_year(draw, 6), 40)
            year = book.year
            for day in range(year.days + 1):
                rows = model.live(book.lines(), day)
                known = book.known(day)
                for date in dates(year):
                    sums = {head: model.six(year, rows, head, date) for head in year.names()}
                    for head in year.names():
                        self.assertEqual(sums[head], book.sums(head, day, date))
                        self.assertEqual(sums[head], {name: getattr(known, name)(head, date) for name in SIX})
                        self.assertEqual({name: sum(sums[one][name] for one in year.under(head)) for name in SIX},
                                         book.knot(head, day, date))

    def test_may_and_leanings(self):
        draw, seen = random.Random(23), collections.Counter()
        for many in range(50):
            book = drawn_book(draw, drawn_year(draw, 6), 40)
            year, lines = book.year, book.lines()
            for number, date, told in book.live():
                found = may_be_back(book, number)
                self.assertEqual(model.may_be_back(year, lines, number), found)
                self.assertEqual(model.needs(year, lines, number), needs(book, number))
                seen[found[0]] += 1
                seen["several"] += len(needs(book, number)) > 1
            for head in year.names():
                for date in dates(year):
                    found = book.may(head, date)
                    self.assertEqual(model.may(year, lines, head, date), found)
                    seen[found[1][1][0]] += 1
                    coins = draw.choice([1, found[0] + 1, found[0] + 20, found[0] + 60, 90])
                    found = fills(book, head, date, coins)
                    self.assertEqual(model.fills(year, lines, head, date, coins), found)
                    seen["fills", found[0]] += 1
                    seen["moves"] += found[0] == "moves" and len(found[1]) > 1
            self.assertEqual(lines, book.lines())
        for kind in ["yes", "leaned", "passed", "several", "left", "limit", ("fills", "limit"), ("fills", "short"),
                     ("fills", "moves"), "moves"]:
            self.assertLess(5, seen[kind], seen)


class Whole(unittest.TestCase):
    """[4]"""

    def books(self, seed, many, steps=40):
        draw = random.Random(seed)
        for number in range(many):
            yield draw, drawn_book(draw, drawn_year(draw), steps)

    def test_no_coin_is_made_or_lost(self):
        for draw, book in self.books(41, 60):
            year = book.year
            for day in range(year.days + 1):
                known = book.known(day)
                for date in dates(year):
                    sums = [book.sums(head, day, date) for head in year.names()]
                    for one in sums:
                        self.assertEqual(one["given"] + one["moved"],
                                         one["spent"] + one["held"] + one["promised"] + one["left"])
                        self.assertLessEqual(0, one["left"])
                    self.assertEqual(0, sum(one["moved"] for one in sums))
                    for k, (at, first, last, most) in enumerate(year.limits):
                        if first <= date <= last:
                            self.assertLessEqual(known.taken(k, date), most)

    def entered_otherwise(self, draw, year, rows):
        """A book into which the rows came in another order, or None; each is tried till none comes any more."""
        book = Book(year)
        waiting = draw.sample(rows, len(rows))
        while waiting:
            still = []
            for number, date, told in waiting:
                day = year.days if draw.random() < 0.1 else max(date, book.today())
                if tried(book, ("enter", day, date, told))[0] != "told":
                    still.append((number, date, told))
            if len(still) == len(waiting):
                return None
            waiting = still
        return book

    def test_entered_late_or_in_another_order(self):
        same = 0
        for draw, book in self.books(42, 80):
            rows, days = book.live(), book.year.days
            other = self.entered_otherwise(draw, book.year, rows)
            if other and len(rows) > 3:
                same += 1
                self.assertEqual(all_sums(book, days), all_sums(other, days))
                self.assertEqual(sorted(row[1:] for row in rows), sorted(row[1:] for row in other.live()))
        self.assertLess(40, same)

    def test_put_in_for_others_that_were_taken_back(self):
        same = 0
        for draw, book in self.books(43, 80, 20):
            twin = Book(book.year)
            for row in book.live():
                # First something else stands there, then it is put right.
                twin.enter(book.year.days, 1, Give(book.year.names()[0], 500, ""))
                same += tried(twin, ("right", book.year.days, twin.live()[-1][0], row[1], row[2]))[0] == "told"
                if twin.live()[-1][2][2] == 500:
                    break
            else:
                self.assertEqual(all_sums(book, book.year.days), all_sums(twin, book.year.days))
        self.assertLess(100, same)

    def test_taken_back_all_is_as_without_it(self):
        taken_back = collections.Counter()
        for draw, book in self.books(44, 80, 20):
            days = book.year.days
            for number in range(10):
                twin, told = book.twin(), drawn_told(draw, book.year)
                kind, bears = tried(twin, ("enter", days, draw.randint(1, days), told))
                if kind == "told":
                    between = all_sums(twin, days)
                    twin.back(days, bears[0])
                    taken_back[told[0], between != all_sums(book, days)] += 1
                    self.assertEqual(all_sums(book, days), all_sums(twin, days))
                    self.assertEqual(book.live(), twin.live())
                    self.assertEqual([book.may(head, 1) for head in book.year.names()],
                                     [twin.may(head, 1) for head in book.year.names()])
        for kind in ["give", "hold", "move", "spend", "promise", "lessen", "out"]:
            self.assertLess(3, taken_back[kind, True], taken_back)

    def test_a_line_that_is_refused_changes_nothing(self):
        for draw, book in self.books(45, 10, 30):
            for number in range(20):
                before, step = told_by(book), drawn_step(draw, book)
                if tried(book, step)[0] != "told":
                    self.assertEqual(before, told_by(book))

    def test_days_that_are_over_are_known_as_they_were(self):
        for draw, book in self.books(46, 20, 15):
            today = book.today()
            before = [all_sums(book, day) for day in range(today)]
            if today < book.year.days:
                for number in range(15):
                    tried(book, ("enter", today + 1, draw.randint(1, today + 1), drawn_told(draw, book.year)))
                    tried(book, ("back", today + 1, draw.randint(0, 20)))
            self.assertEqual(before, [all_sums(book, day) for day in range(today)])

    def test_what_may_be_promised_is_just(self):
        for draw, book in self.books(47, 30, 30):
            days = book.year.days
            for head in book.year.names():
                for date in dates(book.year):
                    most, breach = book.may(head, date)
                    for coins in [most, most + 1]:
                        if coins and len(book.lines()) < 40:
                            told = tried(book.twin(), ("enter", days, date, ("promise", "nobodys", head, coins, "")))
                            self.assertEqual("told" if coins == most else "Passed", told[0])
                            self.assertTrue(coins == most or told[1] == breach)


class TheGreatest(unittest.TestCase):
    """[3]: the greatest years and books are ordinary inputs."""

    def book(self):
        names = ["a", "b", "c", "d", "e", "f", "g", "h"]
        heads = [(name, names[at - 1] if at else "") for at, name in enumerate(names)]
        limits = [("a", 1, 30, 10 ** 15), ("a", 1, 30, 10 ** 15), ("h", 10, 20, 10 ** 13), ("d", 30, 30, 10 ** 12),
                  ("b", 2, 29, 10 ** 15), ("c", 1, 1, 0)]
        book = Book(Year(30, heads, limits, [(name, 1, 3, 31) for name in "abch"]))
        for number in range(16):
            book.enter(number + 1, 1, Give(names[number % 8], 10 ** 12, ""))
        for number in range(12):
            book.enter(20, number + 2, Promise("word" + "abcdefghijkl"[number], names[number % 8], 10 ** 11, ""))
        for number in range(12):
            book.enter(30, 30 - number, Out("word" + "abcdefghijkl"[number], 10 ** 11 + number, ""))
        return book

    def test_it_is_full_and_answers(self):
        book = self.book()
        self.assertEqual(40, len(book.lines()))
        refused(self, Full, book.enter, 30, 30, Give("a", 1, ""))
        self.assertEqual(model.live(book.lines(), 99), book.live())
        for head in ["a", "h"]:
            for day, date in [(0, 1), (16, 1), (20, 20), (30, 30)]:
                self.assertEqual(model.six(book.year, model.live(book.lines(), day), head, date),
                                 book.sums(head, day, date))
        for number in [0, 8, 15, 16, 39]:
            self.assertEqual(model.may_be_back(book.year, book.lines(), number), may_be_back(book, number))
        self.assertEqual(model.needs(book.year, book.lines(), 0), needs(book, 0))
        self.assertEqual(model.fills(book.year, book.lines(), "h", 1, 10 ** 12), fills(book, "h", 1, 10 ** 12))
        self.assertEqual(book.may("h", 10)[1][1], ("left", "h"))

    def test_many_questions(self):
        book = self.book()
        for day in range(31):
            for head in book.year.names():
                for date in dates(book.year):
                    book.sums(head, day, date)
                    book.knot(head, day, date)
        for number in range(40):
            needs(book, number)
            may_be_back(book, number)


if __name__ == "__main__":
    unittest.main()
