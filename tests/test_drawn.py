"""[4], and [26] to [31] once more over drawn books, lists of lines and rows: all that is told is as the model has it."""

import collections
import random
import unittest

import model
import patterns
from draws import drawn_book, drawn_step, drawn_told, drawn_year, tried
from knotpurse.books import Book
from knotpurse.carrying import carried
from knotpurse.desk import Desk
from knotpurse.errors import PurseError
from knotpurse.judging import alike_books, judged
from knotpurse.leanings import fills, needs
from knotpurse.texts import lines_text, read_lines, read_year, year_text
from knotpurse.years import Year
from things import SIX, all_sums, told_by


def drawn_next(draw, year):
    """A year with the same heads, and how each of them keeps what is over."""
    other = drawn_year(draw)
    days, names = other.days, year.names()
    limits = [(draw.choice(names), 1, days, draw.choice([0, 5, 50]))] if draw.random() < 0.2 else []
    rules = [(draw.choice(names), 1, draw.choice([2, 9, 40]), draw.randint(2, days + 1))] if draw.random() < 0.4 else []
    keeping = []
    for name in names:
        whole = draw.choice([1, 2, 3, 1000])
        keeping.append((name, draw.randint(0, whole), whole, draw.choice([0, 3, 10, 10 ** 15])))
    return keeping, Year(days, year.heads, limits, rules)


def known_knots(book):
    """What each knot comes to, as known on each day, at each date."""
    days = range(1, book.year.days + 1)
    return [book.knot(head, day, date) for head in book.year.names() for day in days for date in days]


def carried_or_refused(book, keeping, year):
    try:
        other, fallen = carried(book, keeping, year)
        return ("told", (other.lines(), fallen))
    except PurseError as refusal:
        bears = (refusal.day, refusal.place) if type(refusal).__name__ == "Passed" else None
        return (type(refusal).__name__, bears)


class Carried(unittest.TestCase):
    def test_by_the_model(self):
        draw, seen = random.Random(26), collections.Counter()
        for many in range(300):
            book = drawn_book(draw, drawn_year(draw), 30)
            for step in range(3):
                keeping, year = drawn_next(draw, book.year)
                told = carried_or_refused(book, keeping, year)
                self.assertEqual(model.carried(book.year, book.lines(), keeping, year), told)
                seen[told[0] if told[0] == "told" else told[1][1][0]] += 1
                if told[0] != "told":
                    break
                seen["promises"] += sum(line[-1][0] == "promise" for line in told[1][0]) > 1
                seen["third"] += step > 1
                book = carried(book, keeping, year)[0]
                for line in range(8):
                    tried(book, drawn_step(draw, book))
        for kind in ["told", "left", "limit", "promises", "third"]:
            self.assertLess(10, seen[kind], seen)

    def test_no_coin_is_made_or_lost(self):
        draw = random.Random(260)
        for many in range(200):
            book = drawn_book(draw, drawn_year(draw), 30)
            keeping, new = drawn_next(draw, book.year)
            other, fallen = carried(book, keeping, Year(new.days, new.heads, [], []))
            days = book.year.days
            self.assertEqual(book.year.names(), [head for head, coins in fallen])
            for head, coins in fallen:
                old, first = book.sums(head, days, days), other.sums(head, 1, 1)
                self.assertLessEqual(0, coins)
                self.assertEqual(old["left"] + old["held"], first["left"] + coins)
                self.assertEqual(old["promised"], first["promised"])
                self.assertEqual(old["given"] + old["moved"] - old["spent"], first["given"] + coins)

    def test_carried_by_any_road(self):
        """A book, its twin and the one read from its text are carried alike."""
        draw = random.Random(261)
        for many in range(60):
            book = drawn_book(draw, drawn_year(draw), 30)
            keeping, new = drawn_next(draw, book.year)
            first = carried_or_refused(book, keeping, new)
            read = judged(read_year(year_text(book.year)), read_lines(lines_text(book.lines())))[1]
            for other in [book, book.twin(), read]:
                self.assertEqual(first, carried_or_refused(other, keeping, read_year(year_text(new))))


class Texts(unittest.TestCase):
    def test_books_written_read_and_judged(self):
        draw = random.Random(27)
        for many in range(80):
            book = drawn_book(draw, drawn_year(draw, 6), draw.randint(0, 50))
            text = lines_text(book.lines())
            self.assertEqual(book.lines(), patterns.lines_of(text))
            year = read_year(year_text(book.year))
            kind, other = judged(year, read_lines(text))
            self.assertEqual(("book", text), (kind, lines_text(other.lines())))
            self.assertEqual(told_by(book), told_by(other))
            self.assertEqual(known_knots(book), known_knots(other))
            self.assertEqual(("alike", None), alike_books(book, other))
            for step in range(15):
                step = drawn_step(draw, book)
                self.assertEqual(tried(book, step), tried(other, step))
            self.assertEqual(told_by(book), told_by(other))


def spoiled(draw, lines):
    """Lines of which some are left out, told twice, exchanged or put otherwise."""
    lines = list(lines)
    for many in range(draw.choice([0, 1, 1, 2])):
        at = draw.randrange(len(lines))
        kind, line = draw.choice(["out", "twice", "exchanged", "number"]), lines[at]
        if kind == "out" and len(lines) > 1:
            del lines[at]
        elif kind == "twice":
            lines.insert(at, line)
        elif kind == "exchanged":
            other = draw.randrange(len(lines))
            lines[at], lines[other] = lines[other], line
        else:
            place = draw.randrange(1, 3)
            lines[at] = (*line[:place], max(0, line[place] + draw.choice([-1, 1])), *line[place + 1:])
    return lines


class Judged(unittest.TestCase):
    def test_spoiled_lists(self):
        draw, seen = random.Random(29), collections.Counter()
        for many in range(300):
            book = drawn_book(draw, drawn_year(draw, 6), 30)
            if book.lines():
                lines = spoiled(draw, book.lines())
                kind, found = judged(book.year, lines)
                wrong = model.judged(book.year, lines)
                self.assertEqual(("book", lines) if wrong is None else ("wrong", wrong),
                                 (kind, found.lines() if kind == "book" else found))
                seen[kind] += 1
        self.assertLess(50, min(seen["book"], seen["wrong"]), seen)

    def test_books_held_against_one_another(self):
        draw, seen = random.Random(290), collections.Counter()
        for many in range(200):
            book = drawn_book(draw, drawn_year(draw, 6), 20)
            other = book.twin()
            for step in range(draw.randint(0, 4)):
                tried(other, drawn_step(draw, other))
            place = model.unlike(book.year, book.live(), other.live())
            told = ("alike", None) if place is None else ("unlike", place)
            self.assertEqual(told, alike_books(book, other))
            self.assertEqual(told, alike_books(other, book))
            self.assertEqual(place is None, all_sums(book, book.year.days) == all_sums(other, book.year.days))
            seen[told[0]] += 1
            if place:
                seen[place[2]] += 1
        for kind in ["alike", "unlike", "given", "moved", "spent", "promised", "held"]:
            self.assertLess(2, seen[kind], seen)


class Sheet:
    """What a desk must say, by lists of lines and by books made anew of them."""

    def __init__(self, year):
        self.year, self.lines, self.undone = year, [], []

    def book(self):
        return judged(self.year, self.lines)[1]

    def enter(self, line):
        book = self.book()
        entry_step = ("enter" if line[0] == "in" else line[0], *line[1:])
        kind, told = tried(book, entry_step)
        if kind != "told":
            return kind
        self.lines, self.undone = book.lines(), []
        if told is None:
            return "ok"
        return f"ok {told[0]}" + ("" if told[1] is None else f" again {told[1]}")

    def turn(self, word):
        taken, put = (self.lines, self.undone) if word == "undo" else (self.undone, self.lines)
        if not taken:
            return "NoRow"
        put.append(taken.pop())
        return "ok"

    def ask(self, row):
        book, (word, *words) = self.book(), row.split(" ")
        words = [int(one) if one.isdigit() else one for one in words]
        if word in ("sums", "knot"):
            sums = getattr(book, word)(*words)
            return " ".join([str(sums[name]) for name in SIX])
        if word == "may":
            most, (day, place) = book.may(*words)
            return " ".join([str(one) for one in (most, day, *place)])
        if word in ("needs", "live"):
            numbers = needs(book, *words) if words else [one[0] for one in book.live()]
            return " ".join([str(one) for one in numbers]) or "none"
        if word == "fills":
            kind, found = fills(book, *words)
            parts = {"moves": lambda: [one for move in found for one in move], "short": lambda: [found],
                     "limit": lambda: [found[0], found[1][1]]}[kind]()
            return " ".join([kind] + [str(one) for one in parts])
        return lines_text(self.lines)


class Desks(unittest.TestCase):
    def drawn_row(self, draw, sheet):
        """A line, or the text of a row."""
        kind = draw.random()
        if kind < 0.5:
            step = drawn_step(draw, sheet.book())
            line = ("in" if step[0] == "enter" else step[0], *step[1:])
            return line if all(one >= 0 for one in line[1:] if isinstance(one, int)) else "live"
        if kind < 0.65:
            return draw.choice(["undo", "undo", "redo", "redo", "redo"])
        head, days = draw.choice([*sheet.year.names(), "none"]), sheet.year.days
        day, date, many = draw.randint(0, days), draw.randint(0, days + 1), draw.choice([0, 1, 5, 20, 90])
        return draw.choice([f"sums {head} {day} {date}", f"knot {head} {day} {date}", f"may {head} {date}",
                            f"needs {draw.randint(0, 12)}", f"fills {head} {date} {many}", "live", "lines"])

    def said(self, asked, *arguments):
        try:
            return asked(*arguments)
        except PurseError as refusal:
            return type(refusal).__name__

    def test_two_desks_by_turns(self):
        draw, seen = random.Random(30), collections.Counter()
        for many in range(40):
            pairs = []
            for number in range(2):
                sheet, desk = Sheet(drawn_year(draw, 6)), Desk()
                self.assertEqual("ok", desk.say("year\n" + year_text(sheet.year)))
                pairs.append((sheet, desk))
            for number in range(80):
                sheet, desk = draw.choice(pairs)
                row = self.drawn_row(draw, sheet)
                if isinstance(row, tuple):
                    told, row = sheet.enter(row), lines_text([row])[:-1]
                elif row in ("undo", "redo"):
                    told = sheet.turn(row)
                else:
                    told = self.said(sheet.ask, row)
                self.assertEqual(told, self.said(desk.say, row), row)
                seen[row.split()[0], told.split(" ")[0] if told.isalpha() or "ok" in told else "told"] += 1
            for sheet, desk in pairs:
                self.assertEqual(lines_text(sheet.lines), desk.say("lines"))
                self.assertEqual("book", desk.say("judge\n" + desk.say("lines")))
        for pair in [("in", "ok"), ("back", "ok"), ("right", "ok"), ("undo", "ok"), ("redo", "ok"), ("undo", "NoRow"),
                     ("redo", "NoRow"), ("in", "Passed"), ("back", "NoNumber"), ("sums", "told"), ("sums", "NoHead"),
                     ("knot", "NoDay"), ("may", "told"), ("needs", "none"), ("needs", "NoNumber"), ("fills", "moves"),
                     ("fills", "NoEntry"), ("lines", "told")]:
            self.assertLess(3, seen[pair], (pair, seen))

    def test_a_line_undone_leaves_all_as_without_it(self):
        draw = random.Random(31)
        for many in range(40):
            book = drawn_book(draw, drawn_year(draw, 6), 15)
            desk, other = Desk(), Desk()
            for one in [desk, other]:
                one.say("year\n" + year_text(book.year))
                for row in lines_text(book.lines()).splitlines():
                    one.say(row)
            told = drawn_told(draw, book.year)
            row = lines_text([("in", max(1, book.today()), 1, told)])[:-1]
            if self.said(desk.say, row).startswith("ok"):
                desk.say("undo")
            questions = ["live", "lines"] + [f"{word} {head} {book.year.days} 1" for word in ["sums", "knot"]
                                             for head in book.year.names()]
            self.assertEqual([other.say(one) for one in questions], [desk.say(one) for one in questions])
            self.assertEqual(lines_text(book.lines()), desk.say("lines"))


class ListsOfLines(unittest.TestCase):
    """[4]: any list of lines is told to be a book, or its first line that no book has."""

    def test_what_stands_ahead_of_the_wrong_one_is_a_book(self):
        draw = random.Random(4)
        for many in range(150):
            book = drawn_book(draw, drawn_year(draw, 6), 30)
            if book.lines():
                lines = spoiled(draw, book.lines())
                kind, found = judged(book.year, lines)
                many_good = len(lines) if kind == "book" else found
                first = judged(book.year, lines[:many_good])
                self.assertEqual(("book", lines[:many_good]), (first[0], first[1].lines()))
                if kind == "wrong":
                    line = lines[found]
                    step = ("enter" if line[0] == "in" else line[0], *line[1:])
                    self.assertNotEqual("told", tried(first[1], step)[0])

    def test_an_empty_book_of_each_year(self):
        draw = random.Random(40)
        for many in range(30):
            year = drawn_year(draw)
            self.assertEqual(("alike", None), alike_books(Book(year), judged(year, [])[1]))


if __name__ == "__main__":
    unittest.main()
