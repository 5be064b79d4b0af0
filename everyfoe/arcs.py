"""Arcs: the worth of one round in all directions at once."""

from everyfoe.borders import between, compared
from everyfoe.exact import ONE, ZERO, shared_bottom
from everyfoe.keeping import kept
from everyfoe.kernels import kernels_of
from everyfoe.nearness import roots_behind
from everyfoe.planes import AXES
from everyfoe.quotients import Quotient
from everyfoe.rows import row_times, trimmed
from everyfoe.tables import check_one_board, worth_table


class Arc:
    """A stretch of a quarter on which the worth is one quotient."""

    def __init__(self, low, high, worth, parts):
        self.low = low
        self.high = high
        self.worth = worth
        self.parts = kept(parts)


class ArcPart:
    """A stretch with a mixture of mine and one of the foe, as quotients."""

    def __init__(self, low, high, mixture, against):
        self.low = low
        self.high = high
        self.mixture = kept(mixture)
        self.against = kept(against)


class Found:
    """A kernel and the stretch on which it is right."""

    def __init__(self, low, high, kernel):
        self.low = low
        self.high = high
        self.kernel = kernel


def arcs(world):
    """The arcs of all four quarters."""
    check_one_board(world)
    tables = [worth_table(world, axis) for axis in AXES]
    return tuple([quarter_arcs(tables[k], tables[(k + 1) % 4]) for k in range(4)])


def moving_table(start, end):
    """A pair: the rows in t of the worths that go from one table to another
    one while t goes from 0 to 1, times an integer, and the integer."""
    scale = shared_bottom([item for table in (start, end) for line in table for item in line])
    found = []
    for first, last in zip(start, end):
        line = []
        for one, other in zip(first, last):
            low = one[0] * (scale // one[1])
            line.append(trimmed([low, other[0] * (scale // other[1]) - low]))
        found.append(line)
    return found, scale


def quarter_arcs(start, end):
    """The arcs of a quarter, from the worths at its start to those at its end."""
    table, scale = moving_table(start, end)
    found = []
    for part in parts_within(kernels_of(table), ZERO, ONE):
        kernel = part.kernel
        worth = Quotient(kernel.level, row_times(kernel.whole, scale))
        mixture = shares_of(kernel.shares, kernel.whole, len(table))
        against = shares_of(kernel.others, kernel.whole, len(table[0]))
        piece = ArcPart(part.low, part.high, mixture, against)
        if found and found[-1].worth == worth:
            last = found[-1]
            found[-1] = Arc(last.low, part.high, worth, [*last.parts, piece])
        else:
            found.append(Arc(part.low, part.high, worth, [piece]))
    return tuple(found)


def shares_of(table, whole, many):
    """The shares of all moves as quotients."""
    return [Quotient(table.get(k, ()), whole) for k in range(many)]


def parts_within(kernels, low, high):
    """Stretches from one end to another one, in ascending order, each with a
    kernel that is right on it."""
    found = []
    waiting = [Found(low, high, None)]
    while waiting:
        item = waiting.pop()
        if item.kernel is not None:
            found.append(item)
        else:
            part = part_within(kernels, item.low, item.high)
            if compared(part.high, item.high) < 0:
                waiting.append(Found(part.high, item.high, None))
            waiting.append(part)
            if compared(item.low, part.low) < 0:
                waiting.append(Found(item.low, part.low, None))
    return found


def part_within(kernels, low, high):
    """A stretch between two ends with a kernel that is right on it: that of a
    ratio between them, as far as none of its rows has a root."""
    place = between(low, high)
    kernel = right_kernel(kernels, place)
    start = low
    end = high
    for row in [kernel.whole, *kernel.tests]:
        for root in roots_behind(row, start, end):
            if compared(root, place) <= 0:
                start = root
            elif compared(root, end) < 0:
                end = root
    return Found(start, end, kernel)


def right_kernel(kernels, ratio):
    """The first kernel that is right at all numbers just behind a ratio."""
    for kernel in kernels:
        if kernel.is_right_behind(ratio):
            return kernel
    return None
