"""The signs of rows on stretches, and certificates for them."""

from everyfoe.borders import between, check_stretch, roots_within, sign_at
from everyfoe.errors import BadNumber
from everyfoe.exact import ONE, ZERO, as_ratio, is_ratio, lowest, order
from everyfoe.rows import is_row
from everyfoe.stretches import on_unit, sign_changes, simple_parts, unit_spread


class OneSign:
    """The sign of a row on a stretch between two ratios, and cuts for it."""

    def __init__(self, sign, cuts):
        self.sign = sign
        self.cuts = tuple(cuts)


def check_row(row):
    if not is_row(row):
        raise BadNumber("row", row)


def check_ratios(low, high):
    """Raise BadNumber unless both are ratios, the first one below the second."""
    if not is_ratio(low):
        raise BadNumber("low", low)
    if not is_ratio(high) or order(as_ratio(low), as_ratio(high)) >= 0:
        raise BadNumber("high", high)


def sign_within(row, low, high):
    """The sign of the row on the stretch between two ends, or None."""
    check_row(row)
    check_stretch(low, high)
    if len(row) == 0:
        return 0
    if has_root(row, low, high):
        return None
    return sign_at(row, between(low, high))


def has_root(row, low, high):
    """Whether the row, which is not empty, has a root strictly between two
    ends. Mostly the spread tells it at once."""
    if is_ratio(low) and is_ratio(high):
        many = sign_changes(row, as_ratio(low), as_ratio(high))
        if many < 2:
            return many == 1
    return len(roots_within(row, low, high)) > 0


def one_sign(row, low, high):
    """The sign of the row between two ratios with cuts for it, or None."""
    check_row(row)
    check_ratios(low, high)
    start = as_ratio(low)
    end = as_ratio(high)
    sign = sign_within(row, start, end)
    if sign is None:
        return None
    if sign == 0:
        return OneSign(0, (start, end))
    return OneSign(sign, [start] + [part[1] for part in simple_parts(row, start, end)])


def spread(row, low, high):
    """The spread of the row between two ratios."""
    check_row(row)
    check_ratios(low, high)
    start = as_ratio(low)
    end = as_ratio(high)
    scale = 1
    for _ in row[1:]:
        scale = scale * start[1] * end[1]
    numbers = unit_spread(on_unit(row, start, end))
    return tuple([lowest(number, scale) for number in numbers[::-1]])


def is_chance(quotient):
    """Whether the quotient is above 0 everywhere strictly between 0 and 1."""
    above = sign_within(quotient.top, ZERO, ONE)
    below = sign_within(quotient.bottom, ZERO, ONE)
    return above is not None and below is not None and above * below > 0
