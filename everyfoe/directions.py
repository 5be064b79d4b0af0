"""Directions of the plane: how pairs of pays are weighed."""

from everyfoe.errors import BadNumber
from everyfoe.exact import ZERO, as_ratio, is_ratio, lowest, plus

OWN_PAYS = (((1, 1), (0, 1)), ((0, 1), (1, 1)))


def is_point(value):
    """Whether the value is a pair of ratios."""
    return isinstance(value, tuple) and len(value) == 2 and is_ratio(value[0]) and is_ratio(value[1])


def as_point(value):
    """The pair of ratios in lowest terms."""
    return (as_ratio(value[0]), as_ratio(value[1]))


def checked_direction(value):
    """The direction in lowest terms. Raises BadNumber for anything else."""
    if not is_point(value) or as_point(value) == (ZERO, ZERO):
        raise BadNumber("direction", value)
    return as_point(value)


def worth(direction, point):
    """The worth of a point in a direction, both of ratios in lowest terms."""
    parts = [lowest(a[0] * b[0], a[1] * b[1]) for a, b in zip(direction, point)]
    return plus(parts[0], parts[1])
