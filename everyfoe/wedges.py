"""Wedges: pairs of neighboring directions with a mixture of mine that goes
forth in both of them, seen from a corner of a zone."""

from everyfoe.directions import worth
from everyfoe.exact import lowest, minus
from everyfoe.planes import AXES, lowest_point
from everyfoe.tables import greatest_of, pay_table, secured

UNITS = 16777216


class Wedge:
    """Two directions, integers times those of a quarter at part / whole and at
    (part + 1) / whole; a corner, and a mixture whose expected pays are all
    beyond the corner in both directions."""

    def __init__(self, quarter, part, whole):
        self.quarter = quarter
        self.part = part
        self.whole = whole
        self.corner = None
        self.mixture = None

    def first(self):
        """The first direction, as a pair of integers."""
        return whole_direction(self.quarter, self.part, self.whole)

    def last(self):
        """The second direction, as a pair of integers."""
        return whole_direction(self.quarter, self.part + 1, self.whole)

    def halves(self):
        """The two wedges that it is cut into."""
        return [Wedge(self.quarter, 2 * self.part + k, 2 * self.whole) for k in (0, 1)]


def whole_direction(quarter, part, whole):
    """The direction of a quarter at part / whole, times whole."""
    start = AXES[quarter]
    end = AXES[(quarter + 1) % 4]
    return tuple([(whole - part) * one[0] + part * other[0] for one, other in zip(start, end)])


def with_ratios(direction):
    """The direction as ratios."""
    return ((direction[0], 1), (direction[1], 1))


def greatest_size(pays, corners):
    """The greatest size of a ratio of these points."""
    points = [point for row in pays for point in row] + list(corners)
    return greatest_of([(abs(ratio[0]), ratio[1]) for point in points for ratio in point])


def rounded_table(pays, corner, directions, unit):
    """A table of integers with a column for each move of the foe and each
    direction: how far a pay is beyond the corner, in units, rounded down."""
    found = []
    for row in pays:
        line = []
        for direction in directions:
            way = with_ratios(direction)
            level = worth(way, corner)
            for point in row:
                far = minus(worth(way, point), level)
                line.append((far[0] * unit[1] // (far[1] * unit[0]), 1))
        found.append(line)
    return found


def lowest_corners(corners, directions):
    """The corners with the least worths in some directions, each once."""
    found = []
    for direction in directions:
        best = lowest_point(with_ratios(direction), corners)
        if best not in found:
            found.append(best)
    return found


def settle(wedge, pays, corners, size):
    """Whether a wedge is given a corner and a mixture that goes forth in both
    directions. What is rounded off is small against the room that a wedge of
    its breadth needs."""
    first = wedge.first()
    last = wedge.last()
    middle = (first[0] + last[0], first[1] + last[1])
    unit = lowest(size[0], size[1] * UNITS * wedge.whole * wedge.whole)
    for corner in lowest_corners(corners, [middle, first, last]):
        level, mixture, _ = secured(rounded_table(pays, corner, [first, last], unit))
        if level[0] > 0:
            wedge.corner = corner
            wedge.mixture = mixture
            return True
    return False


def wedges_of(world, zone, most):
    """Wedges all the way round, in order, or None if one of the breadth
    1 / most of a quarter cannot be settled."""
    pays = pay_table(world)
    size = greatest_size(pays, zone.corners)
    if size[0] == 0:
        return None
    found = []
    waiting = [Wedge(quarter, 0, 1) for quarter in (3, 2, 1, 0)]
    while waiting:
        wedge = waiting.pop()
        if settle(wedge, pays, zone.corners, size):
            found.append(wedge)
        elif wedge.whole >= most:
            return None
        else:
            waiting = waiting + wedge.halves()[::-1]
    return found
