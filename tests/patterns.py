"""DOC.md's words on texts once more, as patterns, to check the program by."""

import re

from knotpurse.errors import NoEntry, NoYear
from knotpurse.entries import read_entry
from knotpurse.years import Year

NUMBER = "(0|[1-9][0-9]{0,15})"
WORD = "([a-z]{1,8})"
NOTE = "(-|[a-z]{1,8})"

YEAR_ROWS = [f"year {NUMBER}", f"head {WORD}(?: in {WORD})?", f"limit {WORD} {NUMBER} {NUMBER} {NUMBER}",
             f"rule {WORD} {NUMBER} {NUMBER} {NUMBER}"]
TOLDS = [f"(give) {WORD} {NUMBER} {NOTE}", f"(hold) {WORD} {NUMBER} {NUMBER} {NOTE}",
         f"(move) {WORD} {WORD} {NUMBER} {NOTE}", f"(spend) {WORD} {NUMBER} {NOTE}",
         f"(promise) {WORD} {WORD} {NUMBER} {NOTE}", f"(lessen) {WORD} {NUMBER} {NOTE}", f"(out) {WORD} {NUMBER} {NOTE}"]
STARTS = [f"(in) {NUMBER} {NUMBER} ", f"(right) {NUMBER} {NUMBER} {NUMBER} "]
BACK = f"(back) {NUMBER} {NUMBER}"


def fields(found):
    return tuple(int(one) if one.isdigit() else one for one in found.groups())


def year_of(text):
    """[27]: the days and lists of the text's year, or None."""
    if text.count("year") == 0 or not text.endswith("\n"):
        return None
    lists, at = [[], [], [], []], 0
    for row in text[:-1].split("\n"):
        kinds = [kind for kind in range(4) if re.fullmatch(YEAR_ROWS[kind], row)]
        if not kinds or kinds[0] < at:
            return None
        at = kinds[0]
        lists[at].append(re.fullmatch(YEAR_ROWS[at], row))
    days, heads, limits, rules = lists
    if len(days) != 1:
        return None
    told = (int(days[0][1]), [(one[1], one[2] or "") for one in heads], [fields(one) for one in limits],
            [fields(one) for one in rules])
    try:
        Year(*told)
    except NoYear:
        return None
    return told


def line_of(row):
    """[28]: the line of the row, or None."""
    found = re.fullmatch(BACK, row)
    if found:
        return fields(found)
    for start in STARTS:
        for told in TOLDS:
            if re.fullmatch(start + told, row):
                ahead = re.match(start, row)
                words = fields(re.fullmatch(told, row[ahead.end():]))
                line = (*fields(ahead), words[:-1] + ("" if words[-1] == "-" else words[-1],))
                try:
                    read_entry(line[-1])
                except NoEntry:
                    return None
                return line
    return None


def lines_of(text):
    """[28]: the lines of the text, or None."""
    lines = [line_of(row) for row in text.split("\n")[:-1]]
    return None if None in lines or not text.endswith("\n") and text else lines


def spoiled(draw, text):
    """The text with one, two or no small faults."""
    for many in range(draw.choice([0, 1, 1, 2])):
        at, rows = draw.randint(0, len(text)), text.split("\n")
        row = draw.randrange(len(rows))
        text = draw.choice([
            text[:at] + draw.choice(" \n\t-09aAz~") + text[at:],
            text[:at] + text[at + 1:],
            text[:at] + draw.choice(" \n\t-09aAz~") + text[at + 1:],
            "\n".join(rows[:row] + rows[row + 1:]),
            "\n".join(rows[:row] + [rows[row]] + rows[row:]),
            "\n".join(rows[:row] + rows[row + 1:row + 2] + rows[row:row + 1] + rows[row + 2:]),
        ])
    return text
