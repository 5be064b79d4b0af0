"""One round: what mixtures of mine are worth against all moves of the foe."""

from everyfoe.amounts import negative
from everyfoe.directions import checked_direction
from everyfoe.exact import ONE, ZERO
from everyfoe.keeping import kept
from everyfoe.tables import check_one_board, secured, turned_table, worth_table


class Level:
    """A worth, a mixture of mine that has it, and a mixture of the foe that
    shows that none does better."""

    def __init__(self, worth, mixture, against):
        self.worth = worth
        self.mixture = kept(mixture)
        self.against = kept(against)


def greatest_least(world, c):
    """The greatest worth that a mixture of mine has against all moves."""
    check_one_board(world)
    worth, mixture, against = secured(worth_table(world, checked_direction(c)))
    return Level(worth, mixture, against)


def least_greatest(world, c):
    """The least worth below which a mixture of mine keeps all moves."""
    check_one_board(world)
    worth, mixture, against = secured(turned_table(worth_table(world, checked_direction(c))))
    return Level(negative(worth), mixture, against)


def safe_levels(world):
    """The pair of the greatest means of their own pays that both sides can
    secure."""
    return (greatest_least(world, (ONE, ZERO)).worth, least_greatest(world, (ZERO, ONE)).worth)
