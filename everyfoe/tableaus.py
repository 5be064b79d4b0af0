"""The tableau of a linear question: an exact simplex method over integers."""

from everyfoe.exact import as_ratio, lowest, shared_bottom
from everyfoe.solving import pivoted


class Tableau:
    """The rows of a question with right sides from 0 on, and one helper
    unknown for each row.

    So that all items are integers, the column of an unknown is told times its
    scale, and the right sides times theirs: scales has one for each unknown,
    and one for the right sides at the end. signs tells which rows are turned.

    A line has the items of the unknowns, then those of the helpers, then the
    right side; all of them are to be divided by divisor, which is above 0.
    base tells for each line which unknown or helper it is solved for; all
    others are 0.
    """

    def __init__(self, rows, right, many):
        self.many = many
        self.divisor = 1
        self.base = [many + k for k in range(len(rows))]
        entries = [[as_ratio(value) for value in list(rows[k]) + [right[k]]] for k in range(len(rows))]
        self.scales = [shared_bottom([row[j] for row in entries]) for j in range(many + 1)]
        self.signs = [-1 if row[many][0] < 0 else 1 for row in entries]
        self.lines = []
        for k in range(len(rows)):
            pairs = [(entries[k][j], self.scales[j] * self.signs[k]) for j in range(many + 1)]
            whole = [top * (scale // bottom) for (top, bottom), scale in pairs]
            helpers = [0] * len(rows)
            helpers[k] = 1
            self.lines.append(whole[:many] + helpers + whole[many:])

    def costs_of(self, worth):
        """A pair: the integers whose sum is as great as it can be where that
        of the worth is, and what they are to be divided by."""
        scaled = [(as_ratio(worth[j])[0] * self.scales[j], as_ratio(worth[j])[1]) for j in range(self.many)]
        scale = shared_bottom(scaled)
        return [top * (scale // bottom) for top, bottom in scaled] + [0] * len(self.base), scale

    def pivot(self, at, column):
        """Solve the line at this place for the unknown of the column."""
        lines = list(self.lines)
        if lines[at][column] < 0:
            lines[at] = [-item for item in lines[at]]
        self.lines = pivoted(lines, at, column, self.divisor)
        self.divisor = lines[at][column]
        self.base[at] = column

    def gain(self, costs, column):
        """What the sum of costs would gain per unit of an unknown, times
        divisor."""
        total = costs[column] * self.divisor
        for k in range(len(self.lines)):
            total = total - costs[self.base[k]] * self.lines[k][column]
        return total

    def entering(self, costs):
        """The first unknown that would gain, or None."""
        for column in range(self.many):
            if self.gain(costs, column) > 0:
                return column
        return None

    def leaving(self, column):
        """The line that first comes to 0 when the unknown of the column
        grows, or None if none does; of several the one whose base is first."""
        best = None
        for k in range(len(self.lines)):
            if self.lines[k][column] > 0 and (best is None or self.is_before(k, best, column)):
                best = k
        return best

    def is_before(self, k, best, column):
        """Whether line k comes to 0 before line best, or with it and has the
        earlier base."""
        line = self.lines[k]
        other = self.lines[best]
        difference = line[-1] * other[column] - other[-1] * line[column]
        return difference < 0 or (difference == 0 and self.base[k] < self.base[best])

    def raise_to_top(self, costs):
        """Make the sum of costs as great as it can be. Returns None, or the
        unknown that can grow without end.

        The first unknown that gains enters and the first one leaves (the rule
        of Bland), so no base comes twice, also if many lines are 0.
        """
        while True:
            column = self.entering(costs)
            if column is None:
                return None
            at = self.leaving(column)
            if at is None:
                return column
            self.pivot(at, column)

    def drop_helpers(self):
        """Solve no line for a helper that is 0, where another unknown can take
        its place. A line that has none hangs on the others and stays 0."""
        for k in range(len(self.lines)):
            if self.base[k] >= self.many:
                columns = [j for j in range(self.many) if self.lines[k][j] != 0]
                if columns:
                    self.pivot(k, columns[0])

    def total(self, costs, scale):
        """The sum of costs, over scale."""
        total = 0
        for k in range(len(self.lines)):
            total = total + costs[self.base[k]] * self.lines[k][-1]
        return lowest(total, self.divisor * self.scales[-1] * scale)

    def reached(self):
        """The ratio of each unknown."""
        found = [(0, 1)] * self.many
        for k in range(len(self.lines)):
            at = self.base[k]
            if at < self.many:
                found[at] = lowest(self.lines[k][-1] * self.scales[at], self.divisor * self.scales[-1])
        return tuple(found)

    def growth(self, column):
        """How all unknowns grow together with the unknown of the column."""
        found = [(0, 1)] * self.many
        found[column] = (self.scales[column], 1)
        for k in range(len(self.lines)):
            at = self.base[k]
            if at < self.many:
                found[at] = lowest(-self.lines[k][column] * self.scales[at], self.divisor)
        return tuple(found)

    def prices(self, costs, scale):
        """The weight of each row of the question in the sum of costs, over
        scale."""
        found = []
        for k in range(len(self.lines)):
            total = 0
            for at in range(len(self.lines)):
                total = total + costs[self.base[at]] * self.lines[at][self.many + k]
            found.append(lowest(total * self.signs[k], self.divisor * scale))
        return tuple(found)
