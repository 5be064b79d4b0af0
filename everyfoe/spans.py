"""Spans: independent rows of integers, and what is led to from a first row.

A *way* leads rows: it is a list with the pairs (index, integer) of each item.
"""

from everyfoe.exact import shared_bottom
from everyfoe.rows import content


class Span:
    """Independent rows of integers, and the same ones brought into steps: each
    of these has its lead at an item at which those behind it are 0."""

    def __init__(self):
        self.rows = []
        self.leads = []
        self.stairs = []

    def takes(self, row):
        """Whether a row is no sum of multiples of the rows. If so it is put to
        them."""
        rest = row
        for lead, stair in zip(self.leads, self.stairs):
            if rest[lead] != 0:
                rest = without_lead(rest, stair, lead)
        lead = first_lead(rest)
        if lead is None:
            return False
        self.rows.append(row)
        self.leads.append(lead)
        self.stairs.append(rest)
        return True


def first_lead(row):
    """The first index at which the row is not 0, or None."""
    for k in range(len(row)):
        if row[k] != 0:
            return k
    return None


def without_lead(row, stair, lead):
    """A multiple of the row, less one of the stair, that is 0 at the lead."""
    top = stair[lead]
    factor = row[lead]
    return reduced([top * a - factor * b for a, b in zip(row, stair)])


def reduced(row):
    """The integers without their greatest common divisor."""
    shared = content(row)
    if shared < 2:
        return row
    return [item // shared for item in row]


def whole_ways(table):
    """The pairs (index, ratio) of each item as pairs (index, integer), all of
    them times one integer."""
    scale = shared_bottom([ratio for pairs in table for _, ratio in pairs])
    return [[(k, top * (scale // bottom)) for k, (top, bottom) in pairs] for pairs in table]


def whole_items(ratios):
    """Ratios as integers, all of them times one integer."""
    scale = shared_bottom(ratios)
    return [top * (scale // bottom) for top, bottom in ratios]


def led(row, way):
    """The row that a row is led to, without the divisor of all its items."""
    found = [0] * len(row)
    for item, pairs in zip(row, way):
        if item != 0:
            for k, factor in pairs:
                found[k] = found[k] + item * factor
    return reduced(found)


def product_sum(row, items):
    """The sum of the products of the items of two rows."""
    return sum([a * b for a, b in zip(row, items)])


class Search:
    """Rows at places, looked for from a first one on, those of the shortest
    words first.

    ways tells for each place the pairs of a way and of the pairs (letter, next
    place) that lead so. marks are pairs of the letters that show that a row is
    a wrong one, and the row whose products with it then do not add up to 0.
    """

    def __init__(self, place, row, ways, marks):
        self.place = place
        self.row = row
        self.ways = ways
        self.marks = marks
        self.spans = {name: Span() for name in ways}

    def last_letters(self, row):
        """The letters that show that a row is a wrong one, or None."""
        for letters, items in self.marks:
            if product_sum(row, items) != 0:
                return letters
        return None

    def wrong_word(self):
        """The shortest word that shows a wrong row, or None if all rows that
        are led to are right ones.

        Each row is looked at as soon as a word leads to it, but put to the
        span of its place only when its turn comes: that takes much longer.
        """
        letters = self.last_letters(self.row)
        if letters is not None:
            return letters
        waiting = [(self.place, self.row, ())]
        at = 0
        while at < len(waiting):
            place, row, word = waiting[at]
            if self.spans[place].takes(row):
                for way, steps in self.ways[place]:
                    after = led(row, way)
                    letters = self.last_letters(after)
                    if letters is not None:
                        return (*word, steps[0][0], *letters)
                    goals = {goal: letter for letter, goal in steps}
                    waiting = waiting + [(goal, after, (*word, goals[goal])) for goal in goals]
            at = at + 1
        return None

    def all_rows(self):
        """The rows of all places, a dict."""
        return {place: self.spans[place].rows for place in self.spans}
