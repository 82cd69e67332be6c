"""DOC.md's words on entries and books once more, as slowly and plainly as they stand there, to check the program by.

Rows are (number, date, told). Nothing is kept: each question goes through all rows anew.
"""

ORDER = [("promise",), ("lessen",), ("out",), ("give", "hold", "move", "spend")]
SIX = ["given", "moved", "spent", "promised", "held", "left"]


def in_order(rows):
    """[9]"""
    return [row for date in range(1, 32) for kinds in ORDER for row in sorted(rows)
            if row[1] == date and row[2][0] in kinds]


def walked(rows):
    """[10]: the faults as (date, number); what each promise has left; (date, told, head, over) of all without fault."""
    faults, left, heads, done = [], {}, {}, []
    for number, date, told in in_order(rows):
        word, over = told[1], 0
        if told[0] == "promise":
            if word in left:
                faults.append((date, number))
                continue
            left[word], heads[word] = told[3], told[2]
        if told[0] == "lessen":
            if word not in left or told[2] > left[word]:
                faults.append((date, number))
                continue
            left[word] -= told[2]
        if told[0] == "out":
            if word not in left:
                faults.append((date, number))
                continue
            over = max(0, told[2] - left[word])
            left[word] = max(0, left[word] - told[2])
        head = heads[word] if told[0] in ("promise", "lessen", "out") else told[1]
        done.append((number, date, told, head, over))
    return faults, left, done


def till(rows, date):
    return [row for row in rows if row[1] <= date]


def six(year, rows, head, date):
    """[11]"""
    faults, left, done = walked(till(rows, date))
    told_of = {kind: [told for number, day, told, at, over in done if told[0] == kind and at == head]
               for kind in ("give", "hold", "move", "spend", "promise", "out")}
    to = [told for number, day, told, at, over in done if told[0] == "move" and told[2] == head]
    given = sum(told[2] for told in told_of["give"])
    moved = sum(told[3] for told in to) - sum(told[3] for told in told_of["move"])
    spent = sum(told[2] for told in told_of["spend"] + told_of["out"])
    promised = sum(left[told[1]] for told in told_of["promise"])
    held = sum(told[2] for told in told_of["hold"] if told[3] > date)
    for at, part, whole, until in year.rules:
        if at == head and until > date:
            held += sum(told[2] * part // whole for told in told_of["give"])
    return dict(zip(SIX, [given, moved, spent, promised, held, given + moved - spent - promised - held]))


def counted(told, over):
    """What limits count of an entry."""
    return {"promise": told[-2], "spend": told[-2], "lessen": -told[-2], "out": over}.get(told[0], 0)


def taken(year, rows, k, date):
    """[12]"""
    at, first, last, most = year.limits[k]
    faults, left, done = walked(till(rows, date))
    return sum(counted(told, over) for number, day, told, head, over in done
               if first <= day and head in year.under(at))


def limit_places(year, rows, day):
    return [("limit", k) for k, (at, first, last, most) in enumerate(year.limits)
            if first <= day <= last and taken(year, rows, k, day) > most]


def breach(year, rows):
    """[13]"""
    for day in range(1, year.days + 1):
        places = [("promise", number) for date, number in sorted(walked(rows)[0]) if date == day]
        places += [("left", head) for head in year.names() if six(year, rows, head, day)["left"] < 0]
        places += limit_places(year, rows, day)
        if places:
            return (day, places[0])
    return None


def live(lines, day):
    """[16], [20]: the rows that were live behind the last line of a day not above this one."""
    rows, number = {}, 0
    for line in lines:
        if line[1] <= day:
            if line[0] in ("back", "right"):
                del rows[line[2]]
            if line[0] in ("in", "right"):
                rows[number] = (number, line[-2], line[-1])
        number += line[0] != "back"
    return [rows[number] for number in sorted(rows)]


def leaning(rows, told):
    return [row[0] for row in sorted(rows) if row[2][0] in ("lessen", "out") and row[2][1] == told[1]]


def promise_words(rows):
    return [told[1] for number, date, told in rows if told[0] == "promise"]


def no_line_day(year, lines, day):
    today = lines[-1][1] if lines else 0
    return not 1 <= day <= year.days or day < today


def fits(year, date, told):
    names = year.names()
    if told[0] == "hold" and not date < told[3] <= year.days + 1:
        return False
    heads = {"give": told[1:2], "hold": told[1:2], "spend": told[1:2], "move": told[1:3], "promise": told[2:3]}
    return all(head in names for head in heads.get(told[0], ()))


def word_refusal(told, others):
    if told[0] == "promise" and told[1] in promise_words(others):
        return "Taken"
    if told[0] in ("lessen", "out") and told[1] not in promise_words(others):
        return "NoPromise"
    return None


def entered(year, lines, number, others, date, told):
    found = breach(year, others + [(number, date, told)])
    if found:
        return ("Passed", found)
    again = [one for one, day, other in others if (day, other) == (date, told)]
    return ("told", (number, min(again) if again else None))


def enter(year, lines, day, date, told):
    """[17]: ("told", what) or the refusal and what it bears."""
    if len(lines) >= 40:
        return ("Full", None)
    if no_line_day(year, lines, day) or not 1 <= date <= day:
        return ("NoDay", None)
    if not fits(year, date, told):
        return ("NoEntry", None)
    others = live(lines, 99)
    wrong = word_refusal(told, others)
    if wrong:
        return (wrong, None)
    return entered(year, lines, sum(line[0] != "back" for line in lines), others, date, told)


def back(year, lines, day, number):
    """[18]"""
    if len(lines) >= 40:
        return ("Full", None)
    if no_line_day(year, lines, day):
        return ("NoDay", None)
    kind, bears = may_be_back(year, lines, number)
    return {"none": ("NoNumber", None), "leaned": ("Leaned", bears), "passed": ("Passed", bears),
            "yes": ("told", None)}[kind]


def right(year, lines, day, number, date, told):
    """[19]"""
    if len(lines) >= 40:
        return ("Full", None)
    if no_line_day(year, lines, day) or not 1 <= date <= day:
        return ("NoDay", None)
    rows = live(lines, 99)
    old = [row[2] for row in rows if row[0] == number]
    others = [row for row in rows if row[0] != number]
    if not old:
        return ("NoNumber", None)
    if not fits(year, date, told):
        return ("NoEntry", None)
    wrong = word_refusal(told, others)
    if wrong:
        return (wrong, None)
    if old[0][0] == "promise" and leaning(others, old[0]) and told[:2] != old[0][:2]:
        return ("Leaned", leaning(others, old[0]))
    return entered(year, lines, sum(line[0] != "back" for line in lines), others, date, told)


def late(lines):
    """[21]"""
    days = [line[1] for line in lines if line[0] != "back"]
    return [number for number, date, told in live(lines, 99) if date < days[number]]


def may(year, lines, head, date):
    """[23]: by asking for one sum after the other, in halves."""
    rows = live(lines, 99)

    def would(coins):
        return breach(year, rows + ([(99, date, ("promise", "nobodys", head, coins, ""))] if coins else []))

    low, high = 0, 1
    while not would(high):
        low, high = high, high * 2
    while high - low > 1:
        middle = (low + high) // 2
        if would(middle):
            high = middle
        else:
            low = middle
    return (low, would(high))


def may_be_back(year, lines, number):
    """[24], and none where no such entry is live."""
    rows = live(lines, 99)
    old = [row[2] for row in rows if row[0] == number]
    if not old:
        return ("none", None)
    others = [row for row in rows if row[0] != number]
    if old[0][0] == "promise" and leaning(others, old[0]):
        return ("leaned", leaning(others, old[0]))
    found = breach(year, others)
    return ("passed", found) if found else ("yes", None)


def binding(year, rows, found):
    """[25]: the last, as gone through, of those that the point lists for the place of this breach."""
    day, (kind, at) = found
    kinds = {}
    for number, date, told, head, over in walked(rows)[2]:
        if kind == "left" and head == at and date <= day:
            if told[0] in ("move", "spend", "promise") or told[0] == "hold" and told[3] > day or over:
                kinds[number] = told
        if kind == "limit" and year.limits[at][1] <= date <= day and head in year.under(year.limits[at][0]):
            if told[0] in ("spend", "promise") or over:
                kinds[number] = told
    return [row for row in in_order(rows) if row[0] in kinds][-1]


def needs(year, lines, number):
    """[25]"""
    rows = live(lines, 99)
    going = [row for row in rows if row[0] == number]
    gone = []
    while going:
        numbers = [going[0][0]] + (leaning(rows, going[0][2]) if going[0][2][0] == "promise" else [])
        gone += numbers
        rows = [row for row in rows if row[0] not in numbers]
        found = breach(year, rows)
        going = [binding(year, rows, found)] if found else []
    return gone[1:]


def fills(year, lines, head, date, coins):
    """[25]"""
    rows = live(lines, 99)
    more = rows + [(99, date, ("promise", "nobodys", head, coins, ""))]
    for day in range(1, year.days + 1):
        for place in limit_places(year, more, day):
            return ("limit", (day, place))
    rooms = {name: min(six(year, rows, name, day)["left"] for day in range(date, year.days + 1))
             for name in year.names()}
    if sum(rooms.values()) < coins:
        return ("short", coins - sum(rooms.values()))
    lacking, moves = max(0, coins - rooms.pop(head)), []
    for name, room in rooms.items():
        if min(room, lacking):
            moves.append((name, min(room, lacking)))
        lacking -= min(room, lacking)
    return ("moves", moves)


def carried(year, lines, rules, new):
    """[26]: ("told", (lines, fallen)), or the refusal and what it bears."""
    rows = live(lines, 99)
    left = walked(rows)[1]
    head_of = {told[1]: told[2] for number, date, told in rows if told[0] == "promise"}
    entered_lines, fallen = [], []
    for head, part, whole, most in rules:
        sums = six(year, rows, head, year.days)
        over = sums["left"] + sums["held"]
        kept = over * part // whole if over * part // whole < most else most
        fallen.append((head, over - kept))
        tolds = [("give", head, kept + sums["promised"], "carried")] if kept + sums["promised"] != 0 else []
        tolds += [("promise", word, head, left[word], "carried") for word in sorted(left)
                  if head_of[word] == head and left[word] != 0]
        for told in tolds:
            found = enter(new, entered_lines, 1, 1, told) if told[-2] <= 10 ** 12 else ("NoEntry", None)
            if found[0] != "told":
                return found
            entered_lines.append(("in", 1, 1, told))
    return ("told", (entered_lines, fallen))


def judged(year, lines):
    """[29], of tuples that are lines but for what a book refuses: the number of the first one refused, or None."""
    for at, line in enumerate(lines):
        asked = {"in": enter, "back": back, "right": right}[line[0]]
        if asked(year, lines[:at], *line[1:])[0] != "told":
            return at
    return None


def unlike(year, rows, others):
    """[29]: the first date, head and name at which the sums of the rows differ, or None."""
    for date in range(1, year.days + 1):
        for head in year.names():
            ours, theirs = six(year, rows, head, date), six(year, others, head, date)
            for name in SIX:
                if ours[name] != theirs[name]:
                    return (date, head, name)
    return None
