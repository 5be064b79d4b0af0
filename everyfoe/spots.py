"""Spots: the corners of a polygon with one side for each direction, between
which a plan goes about."""

from everyfoe.exact import shared_bottom


def sides_of(wedges):
    """The sides of the polygon, each the first direction of its wedge, turned
    counterclockwise, times an integer above 0: the breadth of both wedges
    beside it.

    So the sum of all sides is the sum over the wedges of their breadth times
    both of their directions. The ends of the directions go evenly round a
    square with the middle 0; therefore it is 0, and the polygon is closed.
    """
    finest = max([wedge.whole for wedge in wedges])
    sides = []
    for k in range(len(wedges)):
        breadth = finest // wedges[k - 1].whole + finest // wedges[k].whole
        way = wedges[k].first()
        grown = finest // wedges[k].whole * breadth
        sides.append((-way[1] * grown, way[0] * grown))
    return sides


def rim_of(wedges):
    """The corners of the polygon: that of each wedge is where the side of the
    wedge ends."""
    x = 0
    y = 0
    found = []
    for side in sides_of(wedges):
        x = x + side[0]
        y = y + side[1]
        found.append((x, y))
    return found


def cross(one, other):
    return one[0] * other[1] - one[1] * other[0]


def way_to(rim, k, j):
    return (rim[j][0] - rim[k][0], rim[j][1] - rim[k][1])


def parts_of_way(rim, k, way):
    """A way, a pair of ratios that goes from a corner of the rim into the
    polygon, as a sum of parts of the ways to two neighboring corners: pairs of
    a corner and a part above 0."""
    bottom = shared_bottom(way)
    goal = [ratio[0] * (bottom // ratio[1]) for ratio in way]
    many = len(rim)
    for step in range(1, many - 1):
        j = (k + step) % many
        after = (j + 1) % many
        one = way_to(rim, k, j)
        other = way_to(rim, k, after)
        parts = (cross(goal, other), cross(one, goal))
        if parts[0] >= 0 and parts[1] >= 0:
            below = cross(one, other) * bottom
            return [(at, part, below) for at, part in zip((j, after), parts) if part > 0]
    return []
