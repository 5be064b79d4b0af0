"""The plane: ways between points, and sides of what has corners."""

from everyfoe.directions import worth
from everyfoe.exact import minus, order

AXES = (((1, 1), (0, 1)), ((0, 1), (1, 1)), ((-1, 1), (0, 1)), ((0, 1), (-1, 1)))


def excludes(normal, corners, point):
    """Whether the point is further out than all corners."""
    reach = worth(normal, point)
    return all([order(worth(normal, corner), reach) < 0 for corner in corners])


def turned(way):
    """The direction at right angles to a way, to its right."""
    return (way[1], (-way[0][0], way[0][1]))


def opposite(way):
    return ((-way[0][0], way[0][1]), (-way[1][0], way[1][1]))


def way_between(start, end):
    """The way from a point to another one."""
    return (minus(end[0], start[0]), minus(end[1], start[1]))


def normals_of(corners):
    """The outer normals of the sides, in their order."""
    if len(corners) == 1:
        return AXES
    if len(corners) == 2:
        along = way_between(corners[0], corners[1])
        right = turned(along)
        return (right, along, opposite(right), opposite(along))
    many = len(corners)
    return tuple([turned(way_between(corners[k], corners[(k + 1) % many])) for k in range(many)])


def lowest_point(direction, points):
    """The first point with the least worth in a direction."""
    best = points[0]
    for point in points[1:]:
        best = point if order(worth(direction, point), worth(direction, best)) < 0 else best
    return best
