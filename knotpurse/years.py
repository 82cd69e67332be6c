"""Years: days, heads in a tree, limits at its knots, and rules that hold money back."""

from knotpurse.checks import is_list, is_row, is_whole, is_word
from knotpurse.errors import NoHead, NoYear

MOST_DAYS = 30
MOST_HEADS = 8
MOST_LIMITS = 6
MOST_RULES = 4
MOST_LIMIT = 10 ** 15
MOST_WHOLE = 1000


def are_heads(heads):
    """Whether this is a list of heads, each one below a head ahead of it or below none."""
    if not is_list(heads, 1, MOST_HEADS):
        return False
    # A list, not a set: what is looked up in it may be of a kind that no set takes.
    ahead = []
    for row in heads:
        if not is_row(row, 2):
            return False
        name, upper = row
        if not is_word(name) or name in ahead:
            return False
        if upper != "" and upper not in ahead:
            return False
        ahead.append(name)
    return True


def is_limit(row, days, names):
    """Whether this is a limit of a year with these days and these names of heads."""
    if not is_row(row, 4):
        return False
    head, first, last, most = row
    if head not in names or not is_whole(first, 1, days):
        return False
    return is_whole(last, first, days) and is_whole(most, 0, MOST_LIMIT)


def is_rule(row, days, names):
    """Whether this is a rule of a year with these days and these names of heads."""
    if not is_row(row, 4):
        return False
    head, part, whole, until = row
    if head not in names or not is_whole(whole, 1, MOST_WHOLE):
        return False
    return is_whole(part, 0, whole) and is_whole(until, 2, days + 1)


def is_at_most_one(rules, name):
    """Whether the fractions of all rules of the head come to 1 at most together."""
    # Their sum is kept as top by bottom, so that nothing is rounded.
    top = 0
    bottom = 1
    for head, part, whole, until in rules:
        if head == name:
            top = top * whole + part * bottom
            bottom = bottom * whole
    return top <= bottom


def are_limits(limits, days, names):
    """Whether this is a list of limits of such a year."""
    return is_list(limits, 0, MOST_LIMITS) and all([is_limit(row, days, names) for row in limits])


def are_rules(rules, days, names):
    """Whether this is a list of rules of such a year."""
    if not is_list(rules, 0, MOST_RULES) or not all([is_rule(row, days, names) for row in rules]):
        return False
    return all([is_at_most_one(rules, name) for name in names])


class Year:
    """A year; anything that makes none is refused with NoYear."""

    def __init__(self, days, heads, limits, rules):
        if not is_whole(days, 1, MOST_DAYS):
            raise NoYear("days are a whole number from 1 to 30")
        if not are_heads(heads):
            raise NoYear("these are no heads of a year")
        names = [row[0] for row in heads]
        if not are_limits(limits, days, names):
            raise NoYear("these are no limits of this year")
        if not are_rules(rules, days, names):
            raise NoYear("these are no rules of this year")
        self.days = days
        self.heads = list(heads)
        self.limits = list(limits)
        self.rules = list(rules)

    def names(self):
        """The heads, in their order."""
        return [row[0] for row in self.heads]

    def above(self, name):
        """The head above this one, or the empty text."""
        for head, upper in self.heads:
            if head == name:
                return upper
        raise NoHead("no head of the year has this name")

    def knots(self, name):
        """The head itself and all above it, from itself up."""
        upper = self.above(name)
        found = [name]
        while upper != "":
            found.append(upper)
            upper = self.above(upper)
        return found

    def under(self, name):
        """The head itself and all below it, in the order of the heads."""
        # Asked for its refusal: a name that no head has is under none, too.
        self.above(name)
        return [head for head in self.names() if name in self.knots(head)]
