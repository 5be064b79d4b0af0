"""Borders: numbers that are roots of rows, told exactly."""

from everyfoe.errors import BadNumber
from everyfoe.exact import as_ratio, is_ratio, middle, minus, order, sign_of, simplest
from everyfoe.isolating import root_spots, single
from everyfoe.rows import common, is_row, value_at
from everyfoe.stretches import sign_changes


class Border:
    """The only root of the row strictly between two ratios.

    ratio is the ratio that it stands for, or None; sign is the sign of the
    row below the root.
    """

    def __init__(self, row, low, high):
        if not is_row(row) or len(row) < 2:
            raise BadNumber("row", row)
        if not is_ratio(low):
            raise BadNumber("low", low)
        if not is_ratio(high) or order(as_ratio(low), as_ratio(high)) >= 0:
            raise BadNumber("high", high)
        self.row = row
        self.low = as_ratio(low)
        self.high = as_ratio(high)
        self.sign = ratio_sign(row, self.low)
        spots = []
        if changes_sign(row, self.low, self.high):
            spots = root_spots(row, self.low, self.high)
        if len(spots) != 1:
            raise BadNumber("row", row)
        self.ratio = spots[0] if len(spots[0]) == 2 else None


def ratio_sign(row, ratio):
    """The sign of the value of the row at a ratio."""
    return sign_of(value_at(row, ratio[0], ratio[1]))


def changes_sign(row, low, high):
    """Whether the row has unlike signs at two ratios, and is not 0 there."""
    return ratio_sign(row, low) * ratio_sign(row, high) < 0


def is_end(value):
    return isinstance(value, Border) or is_ratio(value)


def plain_end(end):
    """The end as a pair if it is a ratio or stands for one, else as it is."""
    if not isinstance(end, Border):
        return as_ratio(end)
    return end if end.ratio is None else end.ratio


def bounds(end):
    """The pair of ratios between which a plain end is."""
    if isinstance(end, Border):
        return end.low, end.high
    return end, end


def closer(end, stretch):
    """Closer bounds of a plain end than the given ones, if it is a Border:
    the half in which the root is. It is no ratio, so it is not in the middle."""
    if not isinstance(end, Border):
        return stretch
    low, high = stretch
    cut = middle(low, high)
    if ratio_sign(end.row, cut) == end.sign:
        return cut, high
    return low, cut


def check_stretch(low, high):
    """Raise BadNumber unless both are ends, the first one below the second."""
    if not is_end(low):
        raise BadNumber("low", low)
    if not is_end(high) or compared(low, high) >= 0:
        raise BadNumber("high", high)


def roots_within(row, low, high):
    """All roots of the row strictly between two ends, in ascending order."""
    if not is_row(row) or len(row) == 0:
        raise BadNumber("row", row)
    check_stretch(low, high)
    start = plain_end(low)
    end = plain_end(high)
    found = [spot_end(spot) for spot in root_spots(row, bounds(start)[0], bounds(end)[1])]
    if isinstance(start, Border):
        found = [root for root in found if compared(start, root) < 0]
    if isinstance(end, Border):
        found = [root for root in found if compared(root, end) < 0]
    return tuple(found)


def spot_end(spot):
    """The end that a spot is."""
    if len(spot) == 2:
        return spot
    row, low, high = spot
    return Border(row, low, high)


def compared(one, other):
    """-1, 0 or 1 if one end is below, equal to or above the other one."""
    first = plain_end(one)
    second = plain_end(other)
    if is_same(first, second):
        return 0
    first_bounds, second_bounds = parted(first, second)
    return order(first_bounds[0], second_bounds[0])


def is_same(one, other):
    """Whether two plain ends are the same number. Two Borders are if the
    common divisor of their rows changes its sign where both have their root:
    then it is the same root."""
    if not isinstance(one, Border) or not isinstance(other, Border):
        return one == other
    low = one.low if order(one.low, other.low) > 0 else other.low
    high = one.high if order(one.high, other.high) < 0 else other.high
    return order(low, high) < 0 and changes_sign(common(one.row, other.row), low, high)


def parted(one, other):
    """A pair of bounds of two unlike plain ends that do not even touch."""
    first = bounds(one)
    second = bounds(other)
    while order(first[1], second[0]) >= 0 and order(second[1], first[0]) >= 0:
        first = closer(one, first)
        second = closer(other, second)
    return first, second


def between(low, high):
    """A ratio strictly between two ends."""
    if not is_end(high) or compared(low, high) >= 0:
        raise BadNumber("high", high)
    first, second = parted(plain_end(low), plain_end(high))
    return simplest(first[1], second[0])


def narrowed(end, width):
    """The end, as a Border whose bounds are at most so far apart."""
    if not is_ratio(width) or as_ratio(width)[0] <= 0:
        raise BadNumber("width", width)
    place = plain_end(end)
    if not isinstance(place, Border):
        return place
    stretch = bounds(place)
    while order(minus(stretch[1], stretch[0]), as_ratio(width)) > 0:
        stretch = closer(place, stretch)
    return Border(place.row, stretch[0], stretch[1])


def sign_at(row, end):
    """The sign of the value of the row at an end."""
    place = plain_end(end)
    if not isinstance(place, Border):
        return ratio_sign(row, place)
    once = single(row)
    if len(row) == 0 or changes_sign(common(place.row, once), place.low, place.high):
        return 0
    stretch = bounds(place)
    while sign_changes(once, stretch[0], stretch[1]) > 0:
        stretch = closer(place, stretch)
    return ratio_sign(row, middle(stretch[0], stretch[1]))
