"""Rows on a stretch between two ratios: spreads, and counts of sign changes.

A row is moved to the unit stretch first: a list of integers whose polynomial
on (0, 1) is the row on (low, high), up to a number above 0.
"""

from everyfoe.exact import middle, sign_of


def on_unit(row, low, high):
    """The row with low + (high - low) * x put in for the letter, times the
    shared bottom of both ends to the power of the degree."""
    bottom = low[1] * high[1]
    start = low[0] * high[1]
    width = high[0] * low[1] - start
    found = []
    power = 1
    for item in row[::-1]:
        found = put_in(found, start, width)
        if found:
            found[0] = found[0] + item * power
        else:
            found = [item]
        power = power * bottom
    return found


def put_in(items, start, width):
    """The items, multiplied by start + width * x."""
    if not items:
        return []
    out = [start * item for item in items] + [0]
    for k in range(len(items)):
        out[k + 1] = out[k + 1] + width * items[k]
    return out


def moved_by_one(items):
    """The items with x + 1 put in for x."""
    out = list(items)
    for k in range(len(out) - 1):
        for j in range(len(out) - 2, k - 1, -1):
            out[j] = out[j] + out[j + 1]
    return out


def unit_spread(items):
    """The items with 1 / (1 + t) put in for x, times 1 + t to the power of the
    degree: t runs from 1 at 0 to 0 at 1. Read backwards it is the spread."""
    return moved_by_one(items[::-1])


def halves(items):
    """The two halves of the unit stretch, each moved to the unit stretch."""
    low = list(items)
    power = 1
    for k in range(len(low) - 1, -1, -1):
        low[k] = low[k] * power
        power = power * 2
    return low, moved_by_one(low)


def changes(items):
    """How often the sign changes along the items; zeros do not count."""
    many = 0
    last = 0
    for item in items:
        sign = sign_of(item)
        if sign != 0 and last != 0 and sign != last:
            many = many + 1
        if sign != 0:
            last = sign
    return many


def sign_changes(row, low, high):
    """How often the sign changes along the spread of the row on (low, high).
    The row has at most so many roots there, and one less by an even number:
    none if it is 0, exactly one if it is 1."""
    return changes(unit_spread(on_unit(row, low, high)))


def simple_parts(row, low, high):
    """The parts of (low, high), in ascending order, each halved until the sign
    changes at most once along its spread: triples (low, high, changes).

    This ends if the row has no root several times strictly between low and
    high, and none where a part is halved: the sign changes at most once along
    the spread of a part that is short against the distance of other roots,
    complex ones counted.
    """
    found = []
    waiting = [(on_unit(row, low, high), low, high)]
    while waiting:
        items, start, end = waiting.pop()
        many = changes(unit_spread(items))
        if many < 2:
            found.append((start, end, many))
        else:
            left, right = halves(items)
            cut = middle(start, end)
            waiting.append((right, cut, end))
            waiting.append((left, start, cut))
    return found
