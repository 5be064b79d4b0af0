"""Tables of worths in one round: a row for each move of mine, with an item for
each move of the foe, and mixtures over both."""

from everyfoe.amounts import negative
from everyfoe.directions import worth
from everyfoe.errors import NotPlain
from everyfoe.exact import ONE, ZERO, lowest, minus, order, plus
from everyfoe.linear import greatest


def check_one_board(world):
    """Raise NotPlain unless the world has one board and no line signal."""
    if len(world.boards) > 1:
        raise NotPlain("boards")
    if not world.plain:
        raise NotPlain("signals")


def pay_table(world):
    """The pairs of pays of a plain world."""
    board = world.boards[0]
    return [[world.pay(board, mine, foe) for foe in world.foe] for mine in world.mine]


def worth_table(world, direction):
    """The worths of the pays of a plain world in a direction."""
    return [[worth(direction, pays) for pays in row] for row in pay_table(world)]


def turned_table(table):
    """The table with all signs changed."""
    return [[negative(item) for item in row] for row in table]


def mixed_items(mixture, items):
    """The sum of the items, each with its share in a mixture."""
    total = ZERO
    for share, item in zip(mixture, items):
        total = plus(total, lowest(share[0] * item[0], share[1] * item[1]))
    return total


def column_worths(mixture, table):
    """The worth of a mixture of mine against each move of the foe."""
    return [mixed_items(mixture, [row[j] for row in table]) for j in range(len(table[0]))]


def least_of(ratios):
    """The least of some ratios."""
    best = ratios[0]
    for ratio in ratios[1:]:
        best = ratio if order(ratio, best) < 0 else best
    return best


def greatest_of(ratios):
    """The greatest of some ratios."""
    best = ratios[0]
    for ratio in ratios[1:]:
        best = ratio if order(ratio, best) > 0 else best
    return best


def secured(table):
    """A triple: the greatest least worth of a mixture of mine, such a mixture,
    and a mixture of the foe against which no move of mine has more.

    All items are moved above 0 first, so that the worth is an unknown from 0
    on; and as it is not 0, the weights of the foe's moves add up to 1.
    """
    below = minus(least_of([item for row in table for item in row]), ONE)
    moved = [[minus(item, below) for item in row] for row in table]
    mine = len(table)
    foe = len(table[0])
    rows = []
    for j in range(foe):
        spare = [ZERO] * foe
        spare[j] = (-1, 1)
        rows.append([row[j] for row in moved] + [(-1, 1)] + spare)
    rows.append([ONE] * mine + [ZERO] * (foe + 1))
    found = greatest(rows, [ZERO] * foe + [ONE], [ZERO] * mine + [ONE] + [ZERO] * foe)
    against = [negative(weight) for weight in found.weights[:foe]]
    return plus(found.number, below), found.spots[:mine], against
