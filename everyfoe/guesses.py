"""Spans that are guessed modulo a large number, and then shown exactly.

Rows of words are soon very long numbers; the rows of the span that they lie
in, brought to their least form, are mostly short. So the span is looked for
modulo a number, its rows are read off as ratios, and what is promised of them
is multiplied out. If that holds they are right, however they were found.
"""

from math import isqrt

from everyfoe.exact import inverse
from everyfoe.moduli import next_modulus
from everyfoe.spans import led, product_sum, whole_items

SHORT = 1 << 127
TRIES = 3


class Residues:
    """Independent rows modulo a number, each with 1 at its lead, where all
    others have 0."""

    def __init__(self, number):
        self.number = number
        self.leads = []
        self.rows = []

    def rest_of(self, row):
        """The row less the multiples of the rows that make it 0 at their
        leads."""
        rest = [item % self.number for item in row]
        for lead, stair in zip(self.leads, self.rows):
            rest = less_residues(rest, stair, rest[lead], self.number)
        return rest

    def put(self, rest, lead, back):
        """Put a row that is 0 at all leads to the others; back is the inverse
        of its item at its own lead."""
        row = [item * back % self.number for item in rest]
        self.rows = [less_residues(other, row, other[lead], self.number) for other in self.rows] + [row]
        self.leads = self.leads + [lead]
        return row


def less_residues(row, other, factor, number):
    """The row less the other one times a factor, modulo a number."""
    if factor == 0:
        return row
    return [(a - factor * b) % number for a, b in zip(row, other)]


def led_modulo(row, way, number):
    """The row that a row is led to, modulo a number."""
    found = [0] * len(row)
    for item, pairs in zip(row, way):
        if item != 0:
            for k, factor in pairs:
                found[k] = found[k] + item * factor
    return [item % number for item in found]


def residues_at(place, row, ways, marks, number):
    """The Residues of all places, or None if a row is led to that is a wrong
    one, or one of whose items has no inverse."""
    found = {name: Residues(number) for name in ways}
    waiting = [(place, row)]
    while waiting:
        name, after = waiting.pop()
        rest = found[name].rest_of(after)
        leads = [k for k in range(len(rest)) if rest[k] != 0]
        if leads:
            back = inverse(rest[leads[0]], number)
            if back is None or any([product_sum(rest, items) % number != 0 for _, items in marks]):
                return None
            base = found[name].put(rest, leads[0], back)
            for way, steps in ways[name]:
                later = led_modulo(base, way, number)
                goals = {goal: True for _, goal in steps}
                waiting = waiting + [(goal, later) for goal in goals]
    return found


def ratio_from(residue, number):
    """The ratio with a short top and bottom that is a residue modulo a number,
    or None."""
    limit = isqrt(number // 2)
    high, low = number, residue
    before, factor = 0, 1
    while low > limit:
        share = high // low
        high, low = low, high - share * low
        before, factor = factor, before - share * factor
    if factor == 0 or abs(factor) > limit:
        return None
    return (low, factor) if factor > 0 else (-low, -factor)


class Basis:
    """Independent rows of integers, each with a lead at which all others are
    0, and the least integer that all items at the leads divide."""

    def __init__(self, rows, leads):
        self.rows = rows
        self.leads = leads
        self.scale = 1
        for row, lead in zip(rows, leads):
            self.scale = self.scale * row[lead]

    def has(self, row):
        """Whether a row is a sum of multiples of the rows."""
        rest = [item * self.scale for item in row]
        for base, lead in zip(self.rows, self.leads):
            factor = row[lead] * (self.scale // base[lead])
            if factor != 0:
                rest = [a - factor * b for a, b in zip(rest, base)]
        return not any(rest)


def basis_of(residues):
    """The rows that the residues are read off as, or None."""
    rows = []
    for row in residues.rows:
        ratios = [ratio_from(item, residues.number) for item in row]
        if any([ratio is None for ratio in ratios]):
            return None
        rows.append(whole_items(ratios))
    return Basis(rows, residues.leads)


def is_shown(place, row, ways, marks, bases):
    """Whether the bases of all places have the row, and all that it is led to,
    and no row of theirs is a wrong one."""
    if not bases[place].has(row):
        return False
    for name in ways:
        for base in bases[name].rows:
            if any([product_sum(base, items) != 0 for _, items in marks]):
                return False
            for way, steps in ways[name]:
                after = led(base, way)
                goals = {goal: True for _, goal in steps}
                if not all([bases[goal].has(after) for goal in goals]):
                    return False
    return True


def guessed(place, row, ways, marks):
    """The rows of all places, a dict, such that the bases of them show that no
    row that is led to is a wrong one; None if that is not found."""
    limit = SHORT
    for _ in range(TRIES):
        residues = residues_at(place, row, ways, marks, next_modulus(limit))
        if residues is None:
            return None
        bases = {name: basis_of(residues[name]) for name in ways}
        if all([bases[name] is not None for name in ways]) and is_shown(place, row, ways, marks, bases):
            return {name: bases[name].rows for name in ways}
        limit = limit ** 6
    return None
