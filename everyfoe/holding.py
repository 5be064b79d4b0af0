"""Zones of mean pays: a plan that holds one, or what beats all plans."""

from everyfoe.bands import Beaten, play_line
from everyfoe.exact import ONE, ZERO, lowest, minus, plus
from everyfoe.games import greatest_least
from everyfoe.keeping import kept
from everyfoe.planes import way_between
from everyfoe.plans import Plan
from everyfoe.ratios import ratio_text
from everyfoe.rooms import direction_at, rooms_of
from everyfoe.spots import parts_of_way, rim_of
from everyfoe.tables import check_one_board, column_worths, greatest_of, pay_table
from everyfoe.wedges import wedges_of

MOST_PARTS = 64


class HeldZone:
    """A plan that holds a zone; for each state its spot, its point of the zone
    and its mixture."""

    def __init__(self, plan, spots, points, mixtures):
        self.plan = plan
        self.spots = kept(spots)
        self.points = kept(points)
        self.mixtures = kept(mixtures)


class Touching:
    """A direction, told by its quarter and its place in it, in which the zone
    touches what one round can be worth."""

    def __init__(self, quarter, place):
        self.quarter = quarter
        self.place = place


def ways_back(pays, wedge):
    """For each move of the foe the way from the expected pays of the mixture
    of a wedge to its corner."""
    tables = [[[point[k] for point in row] for row in pays] for k in (0, 1)]
    expected = [column_worths(wedge.mixture, table) for table in tables]
    return [way_between(point, wedge.corner) for point in zip(expected[0], expected[1])]


def whole_above(ratio):
    """The least integer that is not below a ratio."""
    return -(-ratio[0] // ratio[1])


def sum_of_parts(parts):
    """The sum of the parts of a way."""
    total = ZERO
    for _, part, below in parts:
        total = plus(total, lowest(part, below))
    return total


def change_line(world, k, move, parts, scale):
    """The line that tells the next states of a state behind a move of the foe:
    the parts over the scale, and what is left."""
    chances = {}
    for j, part, below in parts:
        chances[j] = lowest(part, below * scale)
    rest = ONE
    for j in chances:
        rest = minus(rest, chances[j])
    if rest[0] > 0:
        chances[k] = rest
    words = [f"s{j + 1}:{ratio_text(chances[j])}" for j in sorted(chances)]
    return " ".join(["go", f"s{k + 1}", "*", "*", f"*.{move}", *words])


def zone_plan(world, wedges, ways, scale):
    """The plan with a state for each wedge."""
    lines = [" ".join(["state"] + [f"s{k + 1}" for k in range(len(wedges))])]
    for k in range(len(wedges)):
        lines.append(play_line(world, f"s{k + 1}", wedges[k].mixture))
        for move, parts in zip(world.foe, ways[k]):
            lines.append(change_line(world, k, move, parts, scale))
    return Plan(world, "\n".join(lines) + "\n")


def held_zone(world, wedges):
    """The HeldZone of wedges all the way round. The spots are so far apart
    that each way back from one of them stays between them."""
    rim = rim_of(wedges)
    pays = pay_table(world)
    ways = [[parts_of_way(rim, k, way) for way in ways_back(pays, wedges[k])] for k in range(len(wedges))]
    scale = whole_above(greatest_of([sum_of_parts(parts) for table in ways for parts in table]))
    spots = [((x * scale, 1), (y * scale, 1)) for x, y in rim]
    plan = zone_plan(world, wedges, ways, scale)
    return HeldZone(plan, spots, [wedge.corner for wedge in wedges], [wedge.mixture for wedge in wedges])


def beaten_at(world, zone, direction):
    """The Beaten of a direction in which the room is below 0."""
    level = greatest_least(world, direction)
    return Beaten(direction, level.against, minus(zone.lowest(direction), level.worth))


def lack_of_room(world, zone):
    """A Beaten or a Touching, or None if there is room in all directions."""
    rooms = rooms_of(world, zone)
    for room in rooms:
        place = room.place_below()
        if place is not None:
            return beaten_at(world, zone, direction_at(room.quarter, place))
    for room in rooms:
        place = room.place_at_nothing()
        if place is not None:
            return Touching(room.quarter, place)
    return None


def hold_zone(world, zone):
    """Whether the mean pays can be held within a zone."""
    check_one_board(world)
    wedges = wedges_of(world, zone, MOST_PARTS)
    if wedges is None:
        found = lack_of_room(world, zone)
        if found is not None:
            return found
        most = MOST_PARTS
        while wedges is None:
            most = 2 * most
            wedges = wedges_of(world, zone, most)
    return held_zone(world, wedges)
