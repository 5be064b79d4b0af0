"""Bands: between which bounds the mean worth in a direction can be held."""

from everyfoe.amounts import negative
from everyfoe.directions import checked_direction
from everyfoe.errors import BadNumber
from everyfoe.exact import ONE, ZERO, as_ratio, is_ratio, lowest, minus, order
from everyfoe.games import greatest_least, least_greatest
from everyfoe.keeping import kept
from everyfoe.linear import greatest
from everyfoe.planes import opposite
from everyfoe.plans import Plan
from everyfoe.ratios import ratio_text
from everyfoe.tables import check_one_board, column_worths, turned_table, worth_table


class Held:
    """A plan that holds a band, its two mixtures, how far the sums of worths
    go beyond the band at most, and what shows that no less will do."""

    def __init__(self, plan, up, down, step, floor):
        self.plan = plan
        self.up = kept(up)
        self.down = kept(down)
        self.step = step
        self.floor = floor


class Floor:
    """Weights of the foe's moves that show that a step is the least."""

    def __init__(self, state, above, below):
        self.state = state
        self.above = kept(above)
        self.below = kept(below)


class Beaten:
    """A mixture of the foe that keeps the mean beyond by a gap."""

    def __init__(self, direction, mixture, gap):
        self.direction = direction
        self.mixture = kept(mixture)
        self.gap = gap


def excess_rows(table, low, high):
    """The equations for a mixture of mine and its excess: how far each worth
    is beyond low, and how far it is below high and the excess."""
    many = len(table[0])
    rows = []
    for j in range(many):
        spare = [ZERO] * (2 * many)
        spare[j] = (-1, 1)
        rows.append([minus(row[j], low) for row in table] + [ZERO] + spare)
    for j in range(many):
        spare = [ZERO] * (2 * many)
        spare[many + j] = ONE
        rows.append([minus(row[j], high) for row in table] + [(-1, 1)] + spare)
    rows.append([ONE] * len(table) + [ZERO] * (2 * many + 1))
    return rows


def least_excess(table, low, high):
    """The least excess over high of a mixture of mine all of whose worths are
    at least low: the excess, the mixture, and the weights above and below of
    the foe's moves that show it."""
    mine = len(table)
    many = len(table[0])
    right = [ZERO] * (2 * many) + [ONE]
    found = greatest(excess_rows(table, low, high), right, [ZERO] * mine + [(-1, 1)] + [ZERO] * (2 * many))
    below = [negative(weight) for weight in found.weights[:many]]
    return negative(found.number), found.spots[:mine], found.weights[many:2 * many], below


def play_line(world, state, mixture):
    """The line of a plan that plays a mixture in a state."""
    words = [f"{move}:{ratio_text(share)}" for move, share in zip(world.mine, mixture) if share[0] > 0]
    return " ".join(["play", state, "*", *words])


def change_lines(world, state, other, chances):
    """The lines by which a state changes over to another one, with a chance
    for each move of the foe."""
    lines = []
    for move, chance in zip(world.foe, chances):
        words = []
        if order(chance, ONE) < 0:
            words.append(f"{state}:{ratio_text(minus(ONE, chance))}")
        if chance[0] > 0:
            words.append(f"{other}:{ratio_text(chance)}")
        lines.append(" ".join(["go", state, "*", "*", f"*.{move}", *words]))
    return lines


def chances_beyond(worths, bound, step):
    """How far each worth is above a bound, over the step."""
    found = []
    for worth in worths:
        over = minus(worth, bound)
        found.append(lowest(over[0] * step[1], over[1] * step[0]) if over[0] > 0 and step[0] > 0 else ZERO)
    return found


def changing_plan(world, table, up, down, low, high, step):
    """The plan that changes over between two mixtures."""
    above = chances_beyond(column_worths(up, table), high, step)
    below = chances_beyond(column_worths(down, turned_table(table)), negative(low), step)
    lines = ["state up down", play_line(world, "up", up), play_line(world, "down", down)]
    lines = lines + change_lines(world, "up", "down", above) + change_lines(world, "down", "up", below)
    return Plan(world, "\n".join(lines) + "\n")


def held_band(world, table, low, high):
    """The Held of a band that can be held."""
    first = least_excess(table, low, high)
    second = least_excess(turned_table(table), negative(high), negative(low))
    state, sought = ("up", first) if order(first[0], second[0]) >= 0 else ("down", second)
    step, _, above, below = sought
    floor = Floor(state, above, below) if step[0] > 0 else None
    plan = changing_plan(world, table, first[1], second[1], low, high, step)
    return Held(plan, first[1], second[1], step, floor)


def hold_band(world, c, low, high):
    """Whether the mean worth in a direction can be held from low to high."""
    check_one_board(world)
    direction = checked_direction(c)
    if not is_ratio(low):
        raise BadNumber("low", low)
    if not is_ratio(high) or order(as_ratio(high), as_ratio(low)) < 0:
        raise BadNumber("high", high)
    least = greatest_least(world, direction)
    gap = minus(as_ratio(low), least.worth)
    if gap[0] > 0:
        return Beaten(direction, least.against, gap)
    most = least_greatest(world, direction)
    gap = minus(most.worth, as_ratio(high))
    if gap[0] > 0:
        return Beaten(opposite(direction), most.against, gap)
    return held_band(world, worth_table(world, direction), as_ratio(low), as_ratio(high))
