"""Linear questions: a greatest sum under equations, from 0 on."""

from everyfoe.solving import check_entries
from everyfoe.tableaus import Tableau


class Reached:
    """The greatest worth, where it is reached, and why there is no greater."""

    def __init__(self, number, spots, weights):
        self.number = number
        self.spots = tuple(spots)
        self.weights = tuple(weights)


class Endless:
    """The worth is not bounded: it grows along the run from the spots."""

    def __init__(self, spots, run):
        self.spots = tuple(spots)
        self.run = tuple(run)


class Nothing:
    """There are no spots, as the weights show."""

    def __init__(self, weights):
        self.weights = tuple(weights)


def greatest(rows, right, worth):
    """The greatest worth * x over all x from 0 on with row * x = right."""
    for row in rows:
        check_entries(row)
    check_entries(right)
    check_entries(worth)
    many = len(worth)
    tableau = Tableau(rows, right, many)
    costs = [0] * many + [-1] * len(rows)
    tableau.raise_to_top(costs)
    if tableau.total(costs, 1)[0] < 0:
        return Nothing(tableau.prices(costs, 1))
    tableau.drop_helpers()
    costs, scale = tableau.costs_of(worth)
    column = tableau.raise_to_top(costs)
    spots = tableau.reached()
    if column is not None:
        return Endless(spots, tableau.growth(column))
    return Reached(tableau.total(costs, scale), spots, tableau.prices(costs, scale))


def mixture_for(points, point):
    """The weights of a mixture of the points that is the point, or None."""
    for each in [*points, point]:
        check_entries(each)
    rows = [[each[k] for each in points] for k in range(len(point))]
    rows.append([1] * len(points))
    answer = greatest(rows, [*point, 1], [0] * len(points))
    if isinstance(answer, Nothing):
        return None
    return answer.spots
