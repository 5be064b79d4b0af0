"""Agreements on one board: rows of pairs of moves that both sides keep to."""

from everyfoe.borders import between
from everyfoe.directions import OWN_PAYS, as_point, is_point
from everyfoe.errors import BadName, BadNumber, TooMany
from everyfoe.exact import ONE, ZERO, lowest, order, plus, shared_bottom
from everyfoe.games import greatest_least, least_greatest
from everyfoe.keeping import kept
from everyfoe.linear import mixture_for
from everyfoe.nearness import roots_behind
from everyfoe.planes import excludes, normals_of
from everyfoe.plans import Plan
from everyfoe.ratios import ratio_text
from everyfoe.rows import row_product, row_sum, row_times, trimmed, value_at
from everyfoe.tables import check_one_board, pay_table
from everyfoe.zones import Zone

MOST_PAIRS = 23


class Outside:
    """A direction in which a point is worth more than all pays."""

    def __init__(self, normal):
        self.normal = normal


class Agreed:
    """Two plans that keep to a row, and from which patience on neither side
    gains by leaving it."""

    def __init__(self, plan, against, border):
        self.plan = plan
        self.against = against
        self.border = border


class Refused:
    """A side that a row brings less than its safe level, and the mixture that
    brings it that."""

    def __init__(self, side, mixture, level):
        self.side = side
        self.mixture = kept(mixture)
        self.level = level


class OnRim:
    """A side that a row brings its safe level."""

    def __init__(self, side):
        self.side = side


def shares_for(world, point):
    """The weights of all pairs of moves whose pays mix to a point, or an
    Outside."""
    check_one_board(world)
    if not is_point(point):
        raise BadNumber("point", point)
    place = as_point(point)
    pays = [item for row in pay_table(world) for item in row]
    weights = mixture_for(pays, place)
    if weights is not None:
        return weights
    corners = Zone(pays).corners
    return Outside([normal for normal in normals_of(corners) if excludes(normal, corners, place)][0])


def check_row(world, row):
    """Raise an error unless this is a row of pairs of moves of a world."""
    if len(row) == 0:
        raise BadNumber("row", 0)
    if len(row) > MOST_PAIRS:
        raise TooMany("row", len(row), MOST_PAIRS)
    for mine, foe in row:
        if mine not in world.mine:
            raise BadName(mine)
        if foe not in world.foe:
            raise BadName(foe)


def mean_of_row(pays, at):
    """The mean of the pays of the side with this index."""
    total = ZERO
    for pair in pays:
        total = plus(total, pair[at])
    return lowest(total[0], total[1] * len(pays))


def agreed(world, row):
    """Whether two plans can keep to a row: an Agreed, a Refused or an OnRim."""
    check_one_board(world)
    check_row(world, row)
    pays = [world.pay(world.boards[0], mine, foe) for mine, foe in row]
    safe = (greatest_least(world, OWN_PAYS[0]), least_greatest(world, OWN_PAYS[1]))
    signs = [order(mean_of_row(pays, at), safe[at].worth) for at in (0, 1)]
    if signs[0] < 0:
        return Refused("mine", safe[0].mixture, safe[0].worth)
    if signs[1] < 0:
        return Refused("foe", safe[1].against, safe[1].worth)
    if signs[0] == 0 or signs[1] == 0:
        return OnRim("mine" if signs[0] == 0 else "foe")
    plan = keeping_plan(world, row, 0, safe[1].mixture)
    against = keeping_plan(world, row, 1, safe[0].against)
    return Agreed(plan, against, border_of(world, row, (safe[0].worth, safe[1].worth)))


def keeping_plan(world, row, at, mixture):
    """The plan of the side with this index that keeps to the row, and punishes
    by a mixture once it is left."""
    many = len(row)
    last = f"s{many + 1}"
    lines = [" ".join(["state"] + [f"s{k + 1}" for k in range(many + 1)]), f"go * * * * {last}:1"]
    for k in range(many):
        mine, foe = row[k]
        after = (k + 1) % many + 1
        lines.append(f"play s{k + 1} * {row[k][at]}:1")
        lines.append(f"go s{k + 1} * {row[k][at]} {mine}.{foe} s{after}:1")
    moves = (world.mine, world.foe)[at]
    words = [f"{move}:{ratio_text(share)}" for move, share in zip(moves, mixture) if share[0] > 0]
    lines.append(" ".join(["play", last, "*", *words]))
    return Plan(world, "\n".join(lines) + "\n", ("mine", "foe")[at])


def asked_rows(world, row, at, level):
    """The rows that are not below 0 where the side with this index gains
    nowhere by leaving the row: for each pair and each other move what is left,
    times the sum of the powers of x below the length of the row."""
    many = len(row)
    board = world.boards[0]
    own = [world.pay(board, mine, foe)[at] for mine, foe in row]
    found = []
    for k in range(many):
        for move in (world.mine, world.foe)[at]:
            if move != row[k][at]:
                mine, foe = (move, row[k][1]) if at == 0 else (row[k][0], move)
                pay = world.pay(board, mine, foe)[at]
                scale = shared_bottom([*own, pay, level])
                whole = [top * (scale // bottom) for top, bottom in own[k:] + own[:k]]
                now = pay[0] * (scale // pay[1])
                later = level[0] * (scale // level[1])
                left = row_product(trimmed([now, later - now]), (1,) * many)
                found.append(row_sum(trimmed(whole), row_times(left, -1)))
    return found


def border_of(world, row, levels):
    """The least end from which on the row is kept to."""
    border = ZERO
    for at in (0, 1):
        for asked in asked_rows(world, row, at, levels[at]):
            border = last_fall(asked, border)
    return border


def last_fall(row, low):
    """The last number from an end on, below 1, before which a row that is not
    0 is below 0, or the end itself if there is none."""
    spots = [low, *roots_behind(row, low, ONE), ONE]
    for k in range(len(spots) - 1, 0, -1):
        place = between(spots[k - 1], spots[k])
        if value_at(row, place[0], place[1]) < 0:
            return spots[k]
    return low
