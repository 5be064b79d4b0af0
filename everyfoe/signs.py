"""The signs of rows on stretches, and certificates for them."""

from everyfoe.borders import between, check_stretch, roots_within, sign_at
from everyfoe.errors import BadNumber
from everyfoe.exact import ONE, ZERO, as_ratio, is_ratio, lowest, middle, order
from everyfoe.rows import is_row
from everyfoe.stretches import changes, halves, on_unit, unit_spread


class OneSign:
    """The sign of a row on a stretch between two ratios, and cuts for it."""

    def __init__(self, sign, cuts):
        self.sign = sign
        self.cuts = tuple(cuts)


def check_row(row):
    if not is_row(row):
        raise BadNumber("row", row)


def check_ratios(low, high):
    """Raise BadNumber unless both are ratios, the first one below the second."""
    if not is_ratio(low):
        raise BadNumber("low", low)
    if not is_ratio(high) or order(as_ratio(low), as_ratio(high)) >= 0:
        raise BadNumber("high", high)


def sign_within(row, low, high):
    """The sign of the row on the stretch between two ends, or None."""
    check_row(row)
    check_stretch(low, high)
    if len(row) == 0:
        return 0
    if roots_within(row, low, high):
        return None
    return sign_at(row, between(low, high))


def one_sign(row, low, high):
    """The sign of the row between two ratios with cuts for it, or None."""
    check_row(row)
    check_ratios(low, high)
    start = as_ratio(low)
    end = as_ratio(high)
    sign = sign_within(row, start, end)
    if sign is None:
        return None
    if sign == 0:
        return OneSign(0, (start, end))
    return OneSign(sign, cuts_of(row, start, end))


def cuts_of(row, low, high):
    """Cuts of a row without a root strictly between two ratios.

    Each part is halved until its spread has one sign. This ends: a spread has
    one sign where no root of the row, complex ones counted, is in the circle
    around the part.
    """
    cuts = [low]
    waiting = [(on_unit(row, low, high), low, high)]
    while waiting:
        items, start, end = waiting.pop()
        if changes(unit_spread(items)) == 0:
            cuts.append(end)
        else:
            left, right = halves(items)
            cut = middle(start, end)
            waiting.append((right, cut, end))
            waiting.append((left, start, cut))
    return cuts


def spread(row, low, high):
    """The spread of the row between two ratios."""
    check_row(row)
    check_ratios(low, high)
    start = as_ratio(low)
    end = as_ratio(high)
    scale = 1
    for _ in row[1:]:
        scale = scale * start[1] * end[1]
    numbers = unit_spread(on_unit(row, start, end))
    return tuple([lowest(number, scale) for number in numbers[::-1]])


def is_chance(quotient):
    """Whether the quotient is above 0 everywhere strictly between 0 and 1."""
    above = sign_within(quotient.top, ZERO, ONE)
    below = sign_within(quotient.bottom, ZERO, ONE)
    return above is not None and below is not None and above * below > 0
