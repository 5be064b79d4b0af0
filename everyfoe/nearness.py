"""Rows just behind an end, and where they fall below 0."""

from everyfoe.borders import Border, bounds, closer, plain_end, ratio_sign, roots_within, sign_at
from everyfoe.exact import middle, order
from everyfoe.rows import slope
from everyfoe.stretches import sign_changes

TRIES = 8


def quick_sign(row, place):
    """The sign of a row at a Border if it is seen soon, otherwise 0."""
    stretch = bounds(place)
    for _ in range(TRIES):
        if sign_changes(row, stretch[0], stretch[1]) == 0:
            return ratio_sign(row, middle(stretch[0], stretch[1]))
        stretch = closer(place, stretch)
    return 0


def sign_after(row, end):
    """The sign of a row, which is not empty, at all numbers just behind an
    end: that of its first slope that is not 0 there."""
    place = plain_end(end)
    while True:
        sign = quick_sign(row, place) if isinstance(place, Border) else 0
        if sign == 0:
            sign = sign_at(row, place)
        if sign != 0:
            return sign
        row = slope(row)


def roots_behind(row, low, high):
    """The roots of a row, which is not empty, strictly between two ends.
    Mostly the spread tells at once that there is none."""
    start = bounds(plain_end(low))[0]
    end = bounds(plain_end(high))[1]
    if order(start, end) < 0 and sign_changes(row, start, end) == 0:
        return ()
    return roots_within(row, low, high)


def first_fall(row, low, high):
    """The first number strictly between two ends behind which a row, which is
    not empty, is below 0, or None."""
    for root in roots_behind(row, low, high):
        if sign_after(row, root) < 0:
            return root
    return None
