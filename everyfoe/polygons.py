"""Polygons: all pairs of means that free rules can bring about."""

from math import gcd

from everyfoe.directions import as_point, is_point, worth
from everyfoe.errors import BadNumber
from everyfoe.exact import order, shared_bottom
from everyfoe.keeping import kept
from everyfoe.linear import mixture_for
from everyfoe.means import best_mean, mean_of
from everyfoe.planes import excludes, normals_of, turned, way_between
from everyfoe.rounds import rounds_in
from everyfoe.rules import check_plain


class Side:
    """A side: its outer normal, and a paper for it."""

    def __init__(self, normal, gains, rests):
        self.normal = normal
        self.gains = kept(gains)
        self.rests = kept(rests)


class Polygon:
    """The corners, a choice for each of them, and the sides."""

    def __init__(self, corners, choices, sides):
        self.corners = kept(corners)
        self.choices = kept(choices)
        self.sides = kept(sides)

    def __contains__(self, point):
        """Whether a point lies in the polygon."""
        if not is_point(point):
            return False
        place = as_point(point)
        corners = [as_point(corner) for corner in self.corners]
        return not any([excludes(normal, corners, place) for normal in normals_of(corners)])


def in_least_integers(direction):
    """The pair of integers without a common divisor that points the same way."""
    bottom = shared_bottom(direction)
    tops = [top * (bottom // below) for top, below in direction]
    shared = gcd(tops[0], tops[1])
    return (tops[0] // shared, tops[1] // shared)


class Sought:
    """Points of a polygon that are found by greatest means, each with its
    choice, and the greatest means by their directions, pairs of integers."""

    def __init__(self, course):
        self.course = course
        self.choice = None
        self.choice_at = {}
        self.mean_at = {}

    def best(self, normal):
        """The Mean of a direction. It is looked for from the choice that was
        found last."""
        if normal not in self.mean_at:
            direction = ((normal[0], 1), (normal[1], 1))
            mean = best_mean(self.course, rounds_in(self.course, direction), self.choice)
            self.choice = mean.choice
            self.mean_at[normal] = mean
        return self.mean_at[normal]

    def point(self, choice):
        """The means of a choice."""
        found = mean_of(self.course, choice)
        self.choice_at[found] = choice
        return found

    def ends(self):
        """Two points that are as far apart as possible in mine, or, if all are
        alike in it, in the foe's."""
        low = self.point(self.best((-1, 0)).choice)
        high = self.point(self.best((1, 0)).choice)
        if low[0] != high[0]:
            return low, high
        return self.point(self.best((0, -1)).choice), self.point(self.best((0, 1)).choice)

    def beyond(self, start, end):
        """A point beyond the side from one point to another one, to the right
        of the way, or None if there is none."""
        normal = turned(way_between(start, end))
        found = self.point(self.best(in_least_integers(normal)).choice)
        return None if worth(normal, found) == worth(normal, start) else found

    def points_to(self, start, end):
        """The points from one point to another one, counterclockwise, behind
        the first one: as long as a point is beyond a side, it is put in."""
        found = [start]
        waiting = [end]
        while waiting:
            middle = self.beyond(found[-1], waiting[-1])
            if middle is None:
                found.append(waiting.pop())
            else:
                waiting.append(middle)
        return found[1:]


def is_corner(points, k):
    """Whether the point does not lie between the ones beside it."""
    right = turned(way_between(points[k - 1], points[k]))
    after = points[(k + 1) % len(points)]
    return len(points) < 3 or worth(right, after) != worth(right, points[k])


def first_corner(points):
    """The place of the point with the least mine, and of these with the least
    foe's."""
    best = 0
    for k in range(1, len(points)):
        sign = order(points[k][0], points[best][0])
        if sign < 0 or (sign == 0 and order(points[k][1], points[best][1]) < 0):
            best = k
    return best


def polygon(course):
    """The polygon of a course."""
    check_plain(course)
    sought = Sought(course)
    low, high = sought.ends()
    points = [low]
    if low != high:
        points = sought.points_to(low, high) + sought.points_to(high, low)
    corners = [points[k] for k in range(len(points)) if is_corner(points, k)]
    first = first_corner(corners)
    corners = corners[first:] + corners[:first]
    sides = []
    for normal in normals_of(corners):
        whole = in_least_integers(normal)
        mean = sought.best(whole)
        sides.append(Side(whole, mean.gains, mean.rests))
    return Polygon(corners, [sought.choice_at[corner] for corner in corners], sides)


def polygon_for(polygon, point):
    """The weights of the corners of a point of the polygon, or the index of a
    side that excludes it."""
    if not is_point(point):
        raise BadNumber("point", point)
    place = as_point(point)
    normals = normals_of(polygon.corners)
    for k in range(len(normals)):
        if excludes(normals[k], polygon.corners, place):
            return k
    return mixture_for(polygon.corners, place)
