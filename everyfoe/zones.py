"""Zones: convex sets of points of the plane, told by their corners."""

from everyfoe.directions import as_point, checked_direction, is_point, worth
from everyfoe.errors import BadNumber
from everyfoe.exact import as_ratio, is_ratio, lowest, minus, plus, shared_bottom
from everyfoe.planes import excludes, lowest_point, normals_of


class Zone:
    """The convex hull of some points."""

    def __init__(self, points):
        if not isinstance(points, (list, tuple)) or len(points) == 0:
            raise BadNumber("points", points)
        if not all([is_point(point) for point in points]):
            raise BadNumber("points", points)
        self.corners = corners_of([as_point(point) for point in points])

    def __eq__(self, other):
        return isinstance(other, Zone) and self.corners == other.corners

    def __contains__(self, point):
        """Whether a point lies in the zone."""
        if not is_point(point):
            return False
        place = as_point(point)
        return not any([excludes(normal, self.corners, place) for normal in normals_of(self.corners)])

    def lowest(self, c):
        """The least worth of the corners in a direction."""
        direction = checked_direction(c)
        return worth(direction, lowest_point(direction, self.corners))

    def grown(self, ratio):
        """The zone with all that is at most so far from it in both ratios."""
        if not is_ratio(ratio) or as_ratio(ratio)[0] < 0:
            raise BadNumber("grown", ratio)
        far = as_ratio(ratio)
        found = []
        for x, y in self.corners:
            for left in (minus(x, far), plus(x, far)):
                found = found + [(left, minus(y, far)), (left, plus(y, far))]
        return Zone(found)


def corners_of(points):
    """The corners of the hull of some points, counterclockwise from the least
    one on. Both ratios are scaled to integers: that moves no corner inside."""
    scales = [shared_bottom([point[k] for point in points]) for k in (0, 1)]
    whole = {}
    for point in points:
        spot = [ratio[0] * (scale // ratio[1]) for ratio, scale in zip(point, scales)]
        whole[tuple(spot)] = True
    spots = sorted(list(whole))
    corners = spots
    if len(spots) > 1:
        corners = lower_chain(spots)[:-1] + lower_chain(spots[::-1])[:-1]
    return tuple([(lowest(x, scales[0]), lowest(y, scales[1])) for x, y in corners])


def lower_chain(spots):
    """The spots that are passed if one goes from the first one to the last one
    and has all others to the left."""
    chain = []
    for spot in spots:
        while len(chain) > 1 and not turns_left(chain[-2], chain[-1], spot):
            chain.pop()
        chain.append(spot)
    return chain


def turns_left(first, second, third):
    """Whether the way from the first spot to the third one by the second one
    turns to the left."""
    ahead = (second[0] - first[0], second[1] - first[1])
    after = (third[0] - first[0], third[1] - first[1])
    return ahead[0] * after[1] > ahead[1] * after[0]
