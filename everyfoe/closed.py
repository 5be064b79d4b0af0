"""Closed sets of numbers between 0 and 1, told as pairs of ends in ascending
order: all numbers from the first end to the second one, but never 0 and 1."""

from everyfoe.borders import between, compared, sign_at
from everyfoe.exact import ONE, ZERO
from everyfoe.nearness import roots_behind
from everyfoe.rows import value_at

ALL = (((0, 1), (1, 1)),)


def greater_end(one, other):
    return one if compared(one, other) >= 0 else other


def lesser_end(one, other):
    return one if compared(one, other) <= 0 else other


def joined(stretches):
    """The stretches, in ascending order, with those that touch as one."""
    found = []
    for low, high in stretches:
        if found and compared(found[-1][1], low) == 0:
            found[-1] = (found[-1][0], high)
        else:
            found.append((low, high))
    return found


def is_outer(end):
    """Whether an end is 0 or 1."""
    return end in (ZERO, ONE)


def not_below(row, low, high):
    """The numbers from one end to another one at which a row is not below 0."""
    if not row:
        return [(low, high)]
    spots = [low, *roots_behind(row, low, high), high]
    found = []
    for k in range(len(spots)):
        inner = 0 < k < len(spots) - 1
        if inner or (not is_outer(spots[k]) and sign_at(row, spots[k]) >= 0):
            found.append((spots[k], spots[k]))
        if k < len(spots) - 1:
            place = between(spots[k], spots[k + 1])
            if value_at(row, place[0], place[1]) > 0:
                found.append((spots[k], spots[k + 1]))
    return joined(found)


def in_both(one, other):
    """The numbers that two sets have in common."""
    found = []
    for low, high in one:
        for start, end in other:
            first = greater_end(low, start)
            last = lesser_end(high, end)
            if compared(first, last) <= 0:
                found.append((first, last))
    return found
