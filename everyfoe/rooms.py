"""Rooms: how far the worths of one round are above those of a zone, in all
directions at once."""

from everyfoe.arcs import arcs
from everyfoe.borders import between, compared, sign_at
from everyfoe.directions import worth
from everyfoe.exact import ONE, ZERO, lowest, minus, order, shared_bottom
from everyfoe.nearness import roots_behind
from everyfoe.planes import AXES, lowest_point, way_between
from everyfoe.rows import row_product, row_sum, row_times, trimmed, value_at


class Room:
    """A stretch of a quarter and a row that has the sign of the room on it,
    its ends included."""

    def __init__(self, quarter, low, high, row):
        self.quarter = quarter
        self.low = low
        self.high = high
        self.row = row

    def stops(self):
        """Its ends and the roots between them, in ascending order."""
        roots = roots_behind(self.row, self.low, self.high) if self.row else ()
        return [self.low, *roots, self.high]

    def place_below(self):
        """A ratio at which the room is below 0, or None."""
        stops = self.stops()
        for k in range(len(stops) - 1):
            place = between(stops[k], stops[k + 1])
            if value_at(self.row, place[0], place[1]) < 0:
                return place
        return None

    def place_at_nothing(self):
        """An end at which the room is 0, or None."""
        for stop in self.stops():
            if sign_at(self.row, stop) == 0:
                return stop
        return None


def direction_at(quarter, place):
    """The direction at a ratio of a quarter."""
    rest = minus(ONE, place)
    found = []
    for one, other in zip(AXES[quarter], AXES[(quarter + 1) % 4]):
        found.append(lowest(rest[0] * one[0] * place[1] + place[0] * other[0] * rest[1], rest[1] * place[1]))
    return tuple(found)


def worths_of(quarter, point):
    """The worths of a point at the start and at the end of a quarter."""
    return worth(AXES[quarter], point), worth(AXES[(quarter + 1) % 4], point)


def turns_of(quarter, corners):
    """The ratios strictly between 0 and 1 at which neighboring corners are
    worth the same in a quarter, in ascending order."""
    found = [ZERO, ONE]
    for k in range(len(corners)):
        start, end = worths_of(quarter, way_between(corners[k - 1], corners[k]))
        if start[0] * end[0] < 0:
            fall = minus(start, end)
            turn = lowest(start[0] * fall[1], start[1] * fall[0])
            found = with_turn(found, turn)
    return found


def with_turn(turns, turn):
    """The ascending ratios with one more."""
    found = []
    for item in turns:
        if order(turn, item) < 0 and (not found or order(found[-1], turn) < 0):
            found.append(turn)
        found.append(item)
    return found


def room_row(quarter, arc, place, corners):
    """The row of the room where the corner of the least worth is that at a
    ratio: the worth of the arc less that of the corner."""
    start, end = worths_of(quarter, lowest_point(direction_at(quarter, place), corners))
    scale = shared_bottom([start, end])
    first = start[0] * (scale // start[1])
    line = trimmed([first, end[0] * (scale // end[1]) - first])
    row = row_sum(row_times(arc.worth.top, scale), row_times(row_product(line, arc.worth.bottom), -1))
    return row if value_at(arc.worth.bottom, place[0], place[1]) > 0 else row_times(row, -1)


def rooms_of(world, zone):
    """The Rooms of all quarters."""
    found = []
    quarters = arcs(world)
    for quarter in range(4):
        turns = turns_of(quarter, zone.corners)
        for arc in quarters[quarter]:
            for k in range(len(turns) - 1):
                low = turns[k] if compared(turns[k], arc.low) > 0 else arc.low
                high = turns[k + 1] if compared(turns[k + 1], arc.high) < 0 else arc.high
                if compared(low, high) < 0:
                    place = between(low, high)
                    found.append(Room(quarter, low, high, room_row(quarter, arc, place, zone.corners)))
    return found
