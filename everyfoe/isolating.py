"""Where the roots of a row are, one by one.

A *spot* is a root: a pair if it is a ratio, otherwise a triple (row, low,
high) of a row without roots that are ratios and two ratios between which it
has this root alone.
"""

from math import gcd

from everyfoe.exact import inverse, lowest, order
from everyfoe.rows import (
    common,
    greatest_item,
    primitive,
    row_divided,
    slope,
    value_at,
)
from everyfoe.stretches import simple_parts

SMALL_PRIMES = (2, 3, 5, 7, 11, 13, 17, 19, 23, 29, 31)


def single(row):
    """The primitive row with the same roots, each of them once."""
    whole = primitive(row)
    if len(whole) < 2:
        return whole
    return row_divided(whole, common(whole, slope(whole)))


def value_modulo(row, place, number):
    """The value of the row at an integer, up to a multiple of number."""
    total = 0
    for item in row[::-1]:
        total = (total * place + item) % number
    return total


def roots_modulo(row, number):
    """The integers from 0 below number at which the row is divisible by it."""
    small = [item % number for item in row]
    return [k for k in range(number) if value_modulo(small, k, number) == 0]


def good_modulus(row):
    """A pair of a modulus and the roots of the row modulo it, such that each
    of them is near one root only. All but finitely many primes are good."""
    steep = slope(row)
    number = 3
    while True:
        if gcd(row[-1], number) == 1:
            found = roots_modulo(row, number)
            if all([gcd(value_modulo(steep, k, number), number) == 1 for k in found]):
                return number, found
        number = number + 2


def refined(row, root, number, limit):
    """A pair: the root modulo a number above limit that is the given one
    modulo number, and the greater number. Each step squares the number."""
    steep = slope(row)
    back = inverse(value_modulo(steep, root, number), number)
    while number <= limit:
        number = number * number
        root = (root - value_modulo(row, root, number) * back) % number
        back = back * (2 - value_modulo(steep, root, number) * back) % number
    return root, number


def has_no_ratio_root(row):
    """Whether it is seen that no root of the row is a ratio: it would be one
    modulo each prime that does not divide the last item."""
    for number in SMALL_PRIMES:
        if row[-1] % number != 0 and not roots_modulo(row, number):
            return True
    return False


def ratio_roots(row):
    """The roots of the row that are ratios, in any order. The row has each of
    its roots once.

    Such a root times the last item is an integer, and it is not greater than
    twice the greatest item: so it can be read off modulo a large number.
    """
    if row[0] == 0:
        return [(0, 1)] + ratio_roots(row[1:])
    if len(row) > 1 and sum(row) == 0:
        return [(1, 1)] + ratio_roots(row_divided(row, (-1, 1)))
    if len(row) == 1 or has_no_ratio_root(row):
        return []
    found = []
    number, starts = good_modulus(row)
    limit = 4 * greatest_item(row)
    for start in starts:
        root, modulus = refined(row, start, number, limit)
        top = root * row[-1] % modulus
        if 2 * top > modulus:
            top = top - modulus
        ratio = lowest(top, row[-1])
        if is_ratio_root(row, ratio):
            found.append(ratio)
    return found


def is_ratio_root(row, ratio):
    """Whether the ratio is a root of a row whose first item is not 0. The top
    of such a root divides the first item: mostly that tells it at once."""
    if ratio[0] == 0 or row[0] % ratio[0] != 0:
        return False
    return value_at(row, ratio[0], ratio[1]) == 0


def ascending(ratios):
    """The ratios in ascending order."""
    out = []
    for ratio in ratios:
        at = 0
        while at < len(out) and order(out[at], ratio) < 0:
            at = at + 1
        out.insert(at, ratio)
    return out


def gap_spots(row, low, high):
    """The spots strictly between two ratios, in ascending order. The row has
    each root once, and none of them is a ratio."""
    parts = simple_parts(row, low, high)
    return [(row, start, end) for start, end, many in parts if many == 1]


def bounded(row, low, high):
    """The stretch (low, high) without what is beyond all roots of the row."""
    bound = greatest_item(row) // abs(row[-1]) + 2
    if order(low, (-bound, 1)) < 0:
        low = (-bound, 1)
    if order(high, (bound, 1)) > 0:
        high = (bound, 1)
    return low, high


def root_spots(row, low, high):
    """The spots of all roots strictly between two ratios, in ascending order.
    The row is not empty."""
    rest = single(row)
    ratios = ascending(ratio_roots(rest))
    inner = []
    for ratio in ratios:
        rest = row_divided(rest, (-ratio[0], ratio[1]))
        if order(low, ratio) < 0 and order(ratio, high) < 0:
            inner.append(ratio)
    found = []
    start = low
    for end in [*inner, high]:
        first, last = bounded(rest, start, end)
        if len(rest) > 1 and order(first, last) < 0:
            found = found + gap_spots(rest, first, last)
        if order(end, high) < 0:
            found.append(end)
        start = end
    return found
