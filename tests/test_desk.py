"""[2], [30], [31]: the desk: what is answered, undo and redo, what is refused, and which refusal comes first."""

import unittest

from knotpurse.desk import Desk
from knotpurse.errors import (Full, Leaned, NoDay, NoEntry, NoHead, NoNumber, NoPromise, NoRow, NoText, NoYear, Passed,
                              PurseError, Taken)
from things import leaned, passed, refused, show, things

YEAR = "year 10\nhead all\nhead food in all\nhead roof in all\nhead gifts\nlimit all 3 6 50\nrule roof 1 2 5\n"
ROWS = ["in 2 1 give food 100 -", "in 2 2 promise a food 20 boat", "in 2 1 give roof 9 -", "in 5 3 out a 25 -",
        "right 5 0 1 give food 80 -", "in 6 6 move food gifts 7 -", "back 7 3"]
QUESTIONS = ["sums food 10 10", "knot all 10 2", "may food 2", "needs 0", "fills food 2 5", "live", "lines", "judge\n"]


def a_desk(rows=(), year=YEAR):
    desk = Desk()
    desk.say("year\n" + year)
    for row in rows:
        desk.say(row)
    return desk


def is_said(desk, row):
    """Whether the desk says ok to the row."""
    try:
        return desk.say(row) == "ok"
    except (NoRow, NoYear):
        return False


def walk(desk, row, other):
    """The lines told behind each of these rows as long as it is said ok; then as many of the other one."""
    found = []
    while is_said(desk, row):
        found.append(desk.say("lines"))
    for many in found:
        desk.say(other)
    return found


def told_by(desk):
    """What the desk tells, what may be undone, and what may be redone."""
    found = []
    for row in ["sums food 10 10", "sums gifts 3 9", "knot all 10 10", "may food 2", "fills food 2 5", "live", "lines",
                "judge\n"]:
        try:
            found.append(desk.say(row))
        except PurseError as refusal:
            found.append(type(refusal))
    return (found, walk(desk, "undo", "redo"), walk(desk, "redo", "undo"))


class Base(unittest.TestCase):
    def says(self, desk, row, answer):
        self.assertEqual(answer, desk.say(row), row)
        self.assertIs(str, type(answer))

    def refuses(self, desk, refusal, row):
        """Just this refusal comes, and behind it the desk is as it was, also what may be redone."""
        before = told_by(desk)
        found = refused(self, refusal, desk.say, row)
        self.assertEqual(before, told_by(desk), show(row))
        return found


class Years(Base):
    def test_no_year_at_first(self):
        desk = Desk()
        for row in ROWS + QUESTIONS + ["undo", "redo", "judge\nno text"]:
            self.refuses(desk, NoYear, row)
        self.says(desk, "year\n" + YEAR, "ok")
        self.says(desk, "live", "none")
        self.says(desk, "lines", "")
        self.says(desk, "sums food 0 1", "0 0 0 0 0 0")

    def test_a_year_told_anew(self):
        desk = a_desk(ROWS)
        desk.say("undo")
        self.says(desk, "year\nyear 3\nhead food\n", "ok")
        self.says(desk, "lines", "")
        self.refuses(desk, NoRow, "undo")
        self.refuses(desk, NoRow, "redo")
        self.refuses(desk, NoHead, "sums roof 1 1")
        self.refuses(desk, NoDay, "sums food 1 4")
        self.says(desk, "in 1 1 give food 5 -", "ok 0")

    def test_the_same_year_anew(self):
        desk = a_desk(ROWS)
        self.says(desk, "year\n" + YEAR, "ok")
        self.says(desk, "live", "none")
        self.refuses(desk, NoRow, "undo")

    def test_texts_of_no_year(self):
        for text in ["", "\n", "year 10", YEAR[:-1], YEAR + "\n", "\n" + YEAR, " " + YEAR, YEAR.replace("10", "31"),
                     YEAR.replace("10", "010"), YEAR.upper(), YEAR.replace("food in all", "food in  all"), YEAR * 2,
                     YEAR.replace("food in all", "food in none"), "year\n" + YEAR, "undo", "in 1 1 give food 5 -\n"]:
            refused(self, NoText, Desk().say, "year\n" + text)
            desk = a_desk(ROWS)
            desk.say("undo")
            self.refuses(desk, NoText, "year\n" + text)

    def test_no_year_behind_a_refused_one(self):
        desk = Desk()
        refused(self, NoText, desk.say, "year\nyear 10\n")
        refused(self, NoYear, desk.say, "live")


class Lines(Base):
    def test_numbers_and_again(self):
        desk = a_desk()
        for row, answer in [("in 2 1 give food 5 -", "ok 0"), ("in 2 1 give food 5 -", "ok 1 again 0"),
                            ("in 3 1 give food 5 -", "ok 2 again 0"), ("in 3 1 give food 5 x", "ok 3"),
                            ("back 3 0", "ok"), ("in 3 1 give food 5 -", "ok 4 again 1"),
                            ("right 4 3 1 give food 5 -", "ok 5 again 1"), ("right 4 5 2 give food 5 -", "ok 6"),
                            ("back 4 6", "ok"), ("back 5 1", "ok")]:
            self.says(desk, row, answer)
        self.says(desk, "live", "2 4")

    def test_all_seven_entries_in_both_lines(self):
        desk = a_desk(["in 1 1 give all 99 -", "in 1 1 promise w all 9 -"])
        words = ["give food 50 -", "hold food 5 4 note", "move food roof 5 -", "spend food 5 -", "promise a food 5 -",
                 "lessen a 1 -", "out a 1 abcdefgh"]
        for number, told in enumerate(words):
            self.says(desk, "in 2 2 " + told, f"ok {number + 2}")
        rows = [f"in 2 2 {told}\n" for told in words]
        for number, told in enumerate(["give food 50 x", "hold food 5 5 -", "move all roof 5 -", "spend food 6 -",
                                       "promise a food 5 y", "lessen a 2 -", "out w 1 -"]):
            self.says(desk, f"right 3 {number + 2} 2 {told}", f"ok {number + 9}")
            rows.append(f"right 3 {number + 2} 2 {told}\n")
        self.says(desk, "lines", "in 1 1 give all 99 -\nin 1 1 promise w all 9 -\n" + "".join(rows))
        self.says(desk, "live", "0 1 9 10 11 12 13 14 15")

    def test_lines_and_live(self):
        desk = a_desk()
        for at, row in enumerate(ROWS):
            desk.say(row)
            self.says(desk, "lines", "".join([one + "\n" for one in ROWS[:at + 1]]))
        self.says(desk, "live", "1 2 4 5")
        for row in ["back 7 5", "back 7 1", "back 7 4", "back 7 2"]:
            self.says(desk, row, "ok")
        self.says(desk, "live", "none")

    def test_as_the_book_refuses(self):
        desk = a_desk(ROWS)
        for refusal, row in [(NoDay, "in 6 6 give food 5 -"), (NoDay, "in 11 6 give food 5 -"),
                             (NoDay, "in 7 8 give food 5 -"), (NoDay, "in 7 0 give food 5 -"), (NoDay, "back 6 0"),
                             (NoDay, "in 9999999999999999 1 give food 5 -"), (NoDay, "back 0 1"),
                             (NoDay, "right 7 2 0 give food 5 -"), (NoNumber, "back 7 0"), (NoNumber, "back 7 40"),
                             (NoNumber, "back 7 9999999999999999"), (NoNumber, "right 7 3 7 give food 5 -"),
                             (NoEntry, "in 7 7 give none 5 -"), (NoEntry, "in 7 7 hold food 5 7 -"),
                             (NoEntry, "in 7 7 hold food 5 12 -"), (NoEntry, "right 7 2 7 give none 5 -"),
                             (Taken, "in 7 7 promise a food 5 -"), (Taken, "right 7 2 7 promise a food 5 -"),
                             (NoPromise, "in 7 7 out b 5 -"), (NoPromise, "right 7 1 7 lessen a 5 -")]:
            self.refuses(desk, refusal, row)
        found = self.refuses(desk, Passed, "in 7 4 spend food 51 -")
        self.assertEqual((4, ("limit", 0)), (found.day, found.place))
        passed(self, (7, ("left", "food")), desk.say, "in 7 7 spend food 54 -")
        passed(self, (2, ("left", "food")), desk.say, "back 7 4")
        desk.say("in 8 8 out a 5 -")
        found = self.refuses(desk, Leaned, "back 8 1")
        self.assertEqual([6], found.numbers)
        leaned(self, [6], desk.say, "right 8 1 8 promise b food 5 -")

    def test_forty_and_one(self):
        desk = a_desk(["in 1 1 give food 1 -"] * 40)
        for row in ["in 1 1 give food 1 -", "back 1 0", "right 1 0 1 give food 2 -", "in 0 0 give none 1 -"]:
            self.refuses(desk, Full, row)
        desk.say("undo")
        self.says(desk, "back 1 0", "ok")
        self.refuses(desk, Full, "in 1 1 give food 1 -")
        self.says(desk, "may food 1", "38 1 left food")


class Questions(Base):
    def test_sums_and_knot(self):
        desk = a_desk(ROWS)
        for row, answer in [("sums food 4 3", "100 0 0 20 0 80"), ("sums food 5 3", "80 0 25 0 0 55"),
                            ("sums food 7 3", "80 0 0 20 0 60"), ("sums food 10 10", "80 -7 0 20 0 53"),
                            ("sums gifts 6 6", "0 7 0 0 0 7"), ("sums roof 2 4", "9 0 0 0 4 5"),
                            ("sums roof 2 5", "9 0 0 0 0 9"), ("sums food 0 1", "0 0 0 0 0 0"),
                            ("knot all 4 3", "109 0 0 20 4 85"), ("knot all 7 7", "89 -7 0 20 0 62"),
                            ("knot food 7 7", "80 -7 0 20 0 53"), ("knot gifts 7 7", "0 7 0 0 0 7")]:
            self.says(desk, row, answer)

    def test_sums_refused(self):
        desk = a_desk(ROWS)
        for word in ["sums", "knot"]:
            self.refuses(desk, NoHead, word + " none 1 1")
            self.refuses(desk, NoHead, word + " none 11 0")
            self.refuses(desk, NoDay, word + " food 11 1")
            self.refuses(desk, NoDay, word + " food 1 11")
            self.refuses(desk, NoDay, word + " food 1 0")
            self.refuses(desk, NoDay, word + " food 9999999999999999 1")

    def test_may(self):
        desk = a_desk(ROWS)
        self.says(desk, "may food 2", "53 6 left food")
        self.says(desk, "may food 3", "50 3 limit 0")
        self.says(desk, "may food 10", "53 10 left food")
        self.says(desk, "may roof 1", "5 1 left roof")
        self.says(desk, "may gifts 5", "0 5 left gifts")
        desk.say("in 8 6 spend food 5 -")
        self.says(desk, "may food 3", "45 6 limit 0")
        self.refuses(desk, NoHead, "may none 0")
        self.refuses(desk, NoDay, "may food 0")
        self.refuses(desk, NoDay, "may food 11")

    def test_may_names_the_limits_number(self):
        desk = a_desk(["in 1 1 give food 99 -"], "year 5\nhead food\nlimit food 4 5 3\nlimit food 2 5 50\n")
        self.says(desk, "may food 2", "50 2 limit 1")
        self.says(desk, "may food 4", "3 4 limit 0")
        self.says(desk, "fills food 2 51", "limit 2 1")
        self.says(desk, "fills food 4 9", "limit 4 0")

    def test_needs(self):
        desk = a_desk(ROWS)
        self.says(desk, "needs 5", "none")
        self.says(desk, "needs 4", "1 5")
        desk.say("in 8 8 lessen a 3 -")
        desk.say("in 8 8 out a 3 -")
        self.says(desk, "needs 1", "6 7")
        self.says(desk, "needs 4", "1 6 7 5")
        for row in ["needs 0", "needs 3", "needs 8", "needs 9999999999999999"]:
            self.refuses(desk, NoNumber, row)

    def test_fills(self):
        desk = a_desk(ROWS)
        self.says(desk, "fills food 2 53", "moves")
        self.says(desk, "fills food 2 55", "moves roof 2")
        self.says(desk, "fills food 7 63", "moves roof 9 gifts 1")
        self.says(desk, "fills food 7 69", "moves roof 9 gifts 7")
        self.says(desk, "fills food 7 70", "short 1")
        self.says(desk, "fills gifts 7 1000000000000", "short 999999999931")
        self.says(desk, "fills food 3 51", "limit 3 0")
        self.refuses(desk, NoHead, "fills none 0 0")
        self.refuses(desk, NoDay, "fills food 0 0")
        self.refuses(desk, NoDay, "fills food 11 5")
        self.refuses(desk, NoEntry, "fills food 1 0")
        self.refuses(desk, NoEntry, "fills food 1 1000000000001")

    def test_judge(self):
        desk = a_desk(ROWS)
        self.says(desk, "judge\n" + desk.say("lines"), "book")
        self.says(desk, "judge\n", "book")
        self.says(desk, "judge\nback 1 0\n", "wrong 0")
        self.says(desk, "judge\n" + desk.say("lines") + "back 7 3\n", "wrong 7")
        self.says(desk, "judge\n" + "in 1 1 give food 1 -\n" * 40, "book")
        self.says(desk, "judge\n" + "in 1 1 give food 1 -\n" * 41, "wrong 40")
        self.says(desk, "judge\nin 1 1 give food 1 -\nin 9999999999999999 1 give food 1 -\n", "wrong 1")
        self.says(desk, "judge\nin 1 1 give food 5 -\nin 1 1 spend none 1 -\nback 1 7\n", "wrong 1")
        for text in ["\n", " ", "in 1 1 give food 1 -", "in 1 1 give food 0 -\n", "back 1 00\n", "back 1  0\n", "live\n",
                     desk.say("lines")[:-1], desk.say("lines") + "\n", " " + desk.say("lines"), YEAR]:
            self.refuses(desk, NoText, "judge\n" + text)

    def test_judge_goes_by_the_desks_year(self):
        text = "judge\nin 3 3 give food 5 -\n"
        self.says(a_desk(), text, "book")
        self.says(a_desk(year="year 2\nhead food\n"), text, "wrong 0")
        self.says(a_desk(year="year 3\nhead roof\n"), text, "wrong 0")

    def test_questions_change_nothing(self):
        desk = a_desk(ROWS)
        desk.say("undo")
        before = told_by(desk)
        for row in QUESTIONS[:3] + QUESTIONS[4:] + ["needs 4", "judge\n" + desk.say("lines") + "back 7 5\n"]:
            self.assertEqual(desk.say(row), desk.say(row))
            self.assertEqual(before, told_by(desk))


class UndoAndRedo(Base):
    def test_back_to_nothing_and_on_again(self):
        desk, twin = a_desk(ROWS), a_desk()
        states = []
        for row in ROWS:
            states.append(told_by(twin)[0])
            twin.say(row)
        for state in states[::-1]:
            self.says(desk, "undo", "ok")
            self.assertEqual(state, told_by(desk)[0])
        self.refuses(desk, NoRow, "undo")
        for state in states[1:] + [told_by(twin)[0]]:
            self.says(desk, "redo", "ok")
            self.assertEqual(state, told_by(desk)[0])
        self.refuses(desk, NoRow, "redo")

    def test_nothing_to_undo_or_redo(self):
        desk = a_desk()
        self.refuses(desk, NoRow, "undo")
        self.refuses(desk, NoRow, "redo")
        desk.say(ROWS[0])
        self.refuses(desk, NoRow, "redo")
        desk.say("undo")
        self.refuses(desk, NoRow, "undo")
        self.says(desk, "redo", "ok")
        self.refuses(desk, NoRow, "redo")

    def test_of_a_back_and_of_a_right(self):
        desk = a_desk(ROWS)
        self.says(desk, "undo", "ok")
        self.says(desk, "live", "1 2 3 4 5")
        self.says(desk, "sums food 10 10", "80 -7 25 0 0 48")
        desk.say("undo")
        desk.say("undo")
        self.says(desk, "live", "0 1 2 3")
        self.says(desk, "sums food 10 10", "100 0 25 0 0 75")
        self.says(desk, "redo", "ok")
        self.says(desk, "live", "1 2 3 4")
        desk.say("redo")
        desk.say("redo")
        self.says(desk, "live", "1 2 4 5")

    def test_numbers_and_days_as_they_were(self):
        desk = a_desk(ROWS)
        for many in range(6):
            desk.say("undo")
        self.says(desk, "in 2 2 give gifts 5 -", "ok 1")
        self.says(desk, "lines", ROWS[0] + "\nin 2 2 give gifts 5 -\n")
        self.refuses(desk, NoNumber, "back 2 2")

    def test_a_line_entered_otherwise_leaves_nothing_to_redo(self):
        for row, answer in [("in 7 7 give food 1 -", "ok 6"), ("back 7 5", "ok"), ("right 7 5 7 give food 1 -", "ok 6"),
                            (ROWS[-1], "ok")]:
            desk = a_desk(ROWS)
            desk.say("undo")
            self.says(desk, row, answer)
            self.refuses(desk, NoRow, "redo")
            self.says(desk, "undo", "ok")
            self.says(desk, "redo", "ok")
            self.says(desk, "lines", "".join([one + "\n" for one in ROWS[:-1] + [row]]))
            self.refuses(desk, NoRow, "redo")

    def test_behind_a_refused_row(self):
        desk = a_desk(ROWS)
        desk.say("undo")
        desk.say("undo")
        before = told_by(desk)
        self.assertEqual((5, 2), (len(before[1]), len(before[2])))
        for refusal, row in [(NoRow, "sums food 1"), (NoRow, "in 1 1 give food 0 -"), (NoRow, None), (NoText, "year\n"),
                             (NoText, "judge\nlive"), (NoDay, "in 1 1 give food 1 -"), (NoNumber, "back 5 0"),
                             (NoEntry, "in 5 5 give none 1 -"), (Taken, "in 5 5 promise a food 1 -"),
                             (NoPromise, "in 5 5 out b 1 -"), (Leaned, "back 5 1"), (Passed, "in 5 5 spend food 99 -"),
                             (NoHead, "may none 1")]:
            self.refuses(desk, refusal, row)
        self.says(desk, "redo", "ok")
        self.says(desk, "redo", "ok")
        self.says(desk, "live", "1 2 4 5")

    def test_undone_and_redone_by_turns(self):
        desk = a_desk(ROWS)
        for many in range(30):
            self.says(desk, "undo", "ok")
            self.says(desk, "redo", "ok")
        self.says(desk, "lines", "".join([row + "\n" for row in ROWS]))
        self.says(desk, "back 8 5", "ok")
        self.says(desk, "undo", "ok")
        self.says(desk, "undo", "ok")
        self.says(desk, "live", "1 2 3 4 5")

    def test_answers_count_again_as_well(self):
        desk = a_desk(["in 1 1 give food 5 -", "in 1 1 give food 5 -"])
        desk.say("undo")
        self.says(desk, "in 1 1 give food 5 -", "ok 1 again 0")


class TwoDesks(Base):
    def test_by_turns(self):
        one, other, third = a_desk(), a_desk(year="year 3\nhead food\n"), Desk()
        self.says(one, ROWS[0], "ok 0")
        self.says(other, "in 1 1 give food 5 -", "ok 0")
        self.refuses(third, NoYear, "undo")
        self.says(one, "undo", "ok")
        self.says(other, "lines", "in 1 1 give food 5 -\n")
        self.refuses(other, NoRow, "redo")
        self.says(one, "redo", "ok")
        self.says(other, "undo", "ok")
        self.says(one, "sums food 10 10", "100 0 0 0 0 100")
        self.says(other, "sums food 3 3", "0 0 0 0 0 0")
        self.says(third, "year\n" + YEAR, "ok")
        self.says(third, "live", "none")
        self.says(one, "live", "0")

    def test_the_same_rows_are_answered_alike(self):
        one, other = a_desk(), a_desk()
        for row in ROWS:
            self.assertEqual(one.say(row), other.say(row))
            one.say("undo")
            one.say("redo")
        self.assertEqual(told_by(one), told_by(other))


class NoRows(Base):
    NONE = ["", " ", "\n", "\t", "none", "year", "judge", "year ", "judge ", "year 10", "year\t\n" + YEAR,
            "year \n" + YEAR, " year\n" + YEAR, "Year\n" + YEAR, "\nyear\n" + YEAR, YEAR, "judge \n", " judge\n",
            "judges\n", "live ", " live", "live\n", "live 1", "Live", "LIVE", "lines\n", "lines ", "lines 1", "undo ",
            " undo", "undo\n", "undo 1", "undo\nundo", "redo ", "redo\n", "redo 0", "Undo", "sums", "sums food",
            "sums food 1", "sums food 1 1 1", "sums food 1  1", "sums  food 1 1", "sums food 1 1 ", " sums food 1 1",
            "sums food 01 1", "sums food 1 00", "sums food -1 1", "sums food +1 1", "sums food 1 a", "sums Food 1 1",
            "sums 1 1 1", "sums - 1 1", "sums food\t1 1", "sums food 1 1\n", "sums food 1 10000000000000000",
            "sums foodfoods 1 1", "sums food1 1 1", "knot food 1", "knot food 01 1", "knot 1 food 1", "may food",
            "may food 1 1", "may food 01", "may Food 1", "may 1 food", "may food 1\n", "needs", "needs food", "needs 1 1",
            "needs -1", "needs 00", "needs 1 ", "needs 11111111111111111", "fills food 1", "fills food 1 1 1",
            "fills food 1 01", "fills food 1 -1", "fills food 1 10000000000000000", "fills food food 1", "late", "today",
            "known 1", "twin", "line", "in", "back", "right", "in 1 1", "in 1 1 give food 5", "in 1 1 give food 5 ",
            "in 1 1 give food 5 - ", "in 1 1 give food 5 -\n", " in 1 1 give food 5 -", "in  1 1 give food 5 -",
            "in 1 1 give food 0 -", "in 1 1 give food 1000000000001 -", "in 1 1 give food 05 -", "in 01 1 give food 5 -",
            "in 1 1 hold food 5 1 -", "in 1 1 hold food 5 32 -", "in 1 1 move food food 5 -", "in 1 1 give food 5 --",
            "in 1 1 give Food 5 -", "in 1 1 give food 5 NOTE", "in 10000000000000000 1 give food 5 -", "in 1 1 keep food 5 -",
            "in 1 1 promise a b c 5 -", "In 1 1 give food 5 -", "back 1", "back 1 1 1", "back 1 01", "back 1 -1",
            "back 1 1\n", "back 1 1\nback 1 1", "back 1 1 ", "back 1 10000000000000000", "right 1 1 give food 5 -",
            "right 1 1 1 give food 5", "right 1 1 01 give food 5 -", "give food 5 -", "in 1 1 give food 5 -\nlive"]

    def test_ahead_of_all_else(self):
        desk = a_desk(ROWS)
        desk.say("undo")
        before = told_by(desk)
        for row in self.NONE:
            refused(self, NoRow, Desk().say, row)
            refused(self, NoRow, desk.say, row)
        self.assertEqual(before, told_by(desk))

    def test_no_texts(self):
        desk = a_desk(ROWS)
        desk.say("undo")
        before = told_by(desk)
        for thing in things() + [b"live", ["live"], ("live",), {"live": 1}, {"live"}, ("in", 1, 1, ("give", "food", 5, ""))]:
            refused(self, NoRow, Desk().say, thing)
            refused(self, NoRow, desk.say, thing)
        self.assertEqual(before, told_by(desk))

    def test_in_which_order(self):
        new = Desk()
        for refusal, row in [(NoRow, "needs 01"), (NoYear, "needs 9"), (NoYear, "judge\nneeds 01"), (NoText, "year\n"),
                             (NoYear, "undo"), (NoYear, "redo"), (NoRow, "undo "), (NoYear, "sums none 99 99"),
                             (NoRow, "sums none 99 099"), (NoYear, "in 99 0 give none 1 -"),
                             (NoRow, "in 99 0 give none 0 -")]:
            refused(self, refusal, new.say, row)
        desk = a_desk(["in 1 1 give food 1 -"] * 40)
        for refusal, row in [(NoRow, "in 99 0 give none 0 -"), (Full, "in 99 0 give none 1 -"), (NoText, "judge\nneeds 01"),
                             (NoRow, "judge"), (NoHead, "fills none 99 0"), (NoDay, "fills food 99 0"),
                             (NoEntry, "fills food 9 0")]:
            refused(self, refusal, desk.say, row)


class TheGreatest(Base):
    """[3]"""

    def test_it_is_answered(self):
        names = "abcdefgh"
        year = "year 30\nhead a\n" + "".join([f"head {name} in {above}\n" for name, above in zip(names[1:], names)])
        year += "".join([f"limit {name} 1 30 1000000000000000\n" for name in "abcdef"])
        year += "".join([f"rule {name} 1 1000 31\n" for name in "abch"])
        desk = a_desk(year=year)
        for number in range(16):
            desk.say(f"in {number + 1} 1 give {names[number % 8]} 1000000000000 -")
        for number in range(12):
            desk.say(f"in 20 {number + 2} promise word{'abcdefghijkl'[number]} {names[number % 8]} 100000000000 -")
        for number in range(12):
            desk.say(f"in 30 {30 - number} out word{'abcdefghijkl'[number]} 100000000001 -")
        self.says(desk, "judge\n" + desk.say("lines"), "book")
        self.says(desk, "sums a 30 30", "2000000000000 0 200000000002 0 2000000000 1797999999998")
        self.says(desk, "needs 0", "none")
        self.says(desk, "fills h 30 1000000000000", "moves")
        for many in range(40):
            desk.say("undo")
        for many in range(40):
            desk.say("redo")
        self.refuses(desk, Full, "back 30 0")


if __name__ == "__main__":
    unittest.main()
