"""Rows on a stretch between two ratios: spreads, and counts of sign changes.

A row is moved to the unit stretch first: a list of integers whose polynomial
on (0, 1) is the row on (low, high), up to a number above 0.
"""

from itertools import accumulate

from everyfoe.exact import middle, sign_of


def on_unit(row, low, high):
    """The row with low + (high - low) * x put in for the letter, times the
    shared bottom of both ends to the power of the degree.

    What is put in is start * (1 + v): the items are those of the powers of
    start * v, and start * v is width * x.
    """
    bottom = low[1] * high[1]
    start = low[0] * high[1]
    width = high[0] * low[1] - start
    whole = scaled(row[::-1], bottom)[::-1]
    if start == 0:
        return scaled(whole, width)
    moved = moved_by_one(scaled(whole, start))
    out = []
    below = 1
    above = 1
    for item in moved:
        out.append(item // below * above)
        below = below * start
        above = above * width
    return out


def scaled(items, factor):
    """The items with factor * x put in for x."""
    out = []
    power = 1
    for item in items:
        out.append(item * power)
        power = power * factor
    return out


def moved_by_one(items):
    """The items with x + 1 put in for x: each one is the sum of all that are
    left of the sums of the highest powers."""
    out = []
    rest = items[::-1]
    while rest:
        sums = list(accumulate(rest))
        out.append(sums[-1])
        rest = sums[:-1]
    return out


def unit_spread(items):
    """The items with 1 / (1 + t) put in for x, times 1 + t to the power of the
    degree: t runs from 1 at 0 to 0 at 1. Read backwards it is the spread."""
    return moved_by_one(items[::-1])


def halves(items):
    """The two halves of the unit stretch, each moved to the unit stretch."""
    low = scaled(items[::-1], 2)[::-1]
    return low, moved_by_one(low)


def changes(items):
    """How often the sign changes along the items; zeros do not count."""
    many = 0
    last = 0
    for item in items:
        sign = sign_of(item)
        if sign != 0 and last != 0 and sign != last:
            many = many + 1
        if sign != 0:
            last = sign
    return many


def sign_changes(row, low, high):
    """How often the sign changes along the spread of the row on (low, high).
    The row has at most so many roots there, and one less by an even number:
    none if it is 0, exactly one if it is 1."""
    return changes(unit_spread(on_unit(row, low, high)))


def simple_parts(row, low, high):
    """The parts of (low, high), in ascending order, each halved until the sign
    changes at most once along its spread: triples (low, high, changes).

    This ends if the row has no root several times strictly between low and
    high, and none where a part is halved: the sign changes at most once along
    the spread of a part that is short against the distance of other roots,
    complex ones counted.
    """
    found = []
    waiting = [(on_unit(row, low, high), low, high)]
    while waiting:
        items, start, end = waiting.pop()
        many = changes(unit_spread(items))
        if many < 2:
            found.append((start, end, many))
        else:
            left, right = halves(items)
            cut = middle(start, end)
            waiting.append((right, cut, end))
            waiting.append((left, start, cut))
    return found
