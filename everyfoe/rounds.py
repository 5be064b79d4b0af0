"""Rounds: what a round of each move is worth and where it leads, for each
standing of a course.

The ways of a standing are a dict of the moves that are let there to pairs: the
worth of a round, and the pairs (next standing, chance). Chances that are left
out lead to an end behind which all is worth 0.
"""

from everyfoe.amounts import added, lifted, put, times
from everyfoe.quotients import Quotient
from everyfoe.systems import whole_line

LETTER = (0, 1)
IMPATIENCE = (1, -1)


class Rounds:
    """The ways of all standings. lines has the same in rows: for each standing
    a dict of the moves to triples (scale, worth, pairs), all worths and
    chances times the scale, which is a row that is a number above 0."""

    def __init__(self, ways, lettered):
        self.ways = ways
        self.lettered = lettered
        self.lines = [{move: line_of_way(way, lettered) for move, way in table.items()} for table in ways]

    def chain(self, choice):
        """The next standings of a choice, with their chances."""
        return [table[move][1] for table, move in zip(self.ways, choice)]

    def worths(self, choice):
        """The worths of a round of a choice."""
        return [table[move][0] for table, move in zip(self.ways, choice)]


def line_of_way(way, lettered):
    """A way in rows."""
    worth, pairs = way
    one = lifted((1, 1), lettered)
    rows = whole_line([one, worth] + [chance for _, chance in pairs])
    return rows[0], rows[1], [(j, row) for (j, _), row in zip(pairs, rows[2:])]


def next_chances(steps):
    """The pairs (next standing, chance) of steps, whatever the plan's move."""
    found = {}
    for _, k, chance in steps:
        put(found, k, chance)
    return [(k, found[k]) for k in sorted(found)]


def weighed(course, k, move, c):
    """The worth of a round in a direction, of ratios in lowest terms."""
    pays = course.pay(k, move)
    parts = [times(lifted(ratio, course.lettered), pay) for ratio, pay in zip(c, pays)]
    return added(parts[0], parts[1])


def rounds_in(course, c):
    """The rounds of a course, worth what they are worth in a direction."""
    ways = []
    for k in range(len(course.standings)):
        table = {}
        for move in course.moves(k):
            table[move] = (weighed(course, k, move, c), next_chances(course.steps(k, move)))
        ways.append(table)
    return Rounds(ways, course.lettered)


def discounted(ways, now, later):
    """The rounds of these ways if what a round is worth counts now, and all
    that follows counts later: two ratios, or two Quotients."""
    lettered = isinstance(now, Quotient)
    found = []
    for ways_at in ways:
        table = {}
        for move, (worth, pairs) in ways_at.items():
            behind = [(k, times(later, lifted(chance, lettered))) for k, chance in pairs]
            table[move] = (times(now, lifted(worth, lettered)), behind)
        found.append(table)
    return Rounds(found, lettered)


def patient(ways):
    """The rounds of ways without a letter for the patience x."""
    return discounted(ways, Quotient(IMPATIENCE), Quotient(LETTER))


def patient_rounds(course, c):
    """The rounds of a course without a letter for the patience x."""
    return patient(rounds_in(course, c).ways)
