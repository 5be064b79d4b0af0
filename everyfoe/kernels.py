"""Kernels: square parts of a table that tell the mixtures of both sides.

The items of the table are rows in a letter t. In a kernel, each side mixes so
that all moves of the other side that belong to the kernel have one worth. In
each table some kernel is right: both are mixtures, and no other move does
better.
"""

from itertools import combinations

from everyfoe.nearness import sign_after
from everyfoe.rows import row_product, row_sum, row_times


class Minors:
    """The determinants of square parts of a table, each found once."""

    def __init__(self, table):
        self.table = table
        self.found = {((), ()): (1,)}

    def minor(self, lines, columns):
        """The determinant of these lines and columns."""
        key = (lines, columns)
        if key not in self.found:
            total = ()
            for k in range(len(columns)):
                part = row_product(self.table[lines[0]][columns[k]], self.minor(lines[1:], without(columns, k)))
                total = row_sum(total, row_times(part, 1 - 2 * (k % 2)))
            self.found[key] = total
        return self.found[key]


def without(items, k):
    """The items but the one at this place."""
    return items[:k] + items[k + 1:]


def sum_of_products(pairs):
    """The sum of the products of pairs of rows."""
    total = ()
    for one, other in pairs:
        total = row_sum(total, row_product(one, other))
    return total


class Kernel:
    """Some lines and as many columns of a table.

    shares and others are dicts of the lines and the columns to rows: their
    shares in both mixtures, times the row whole, which is the sum of each of
    them. level is the worth times whole. tests are rows that have the sign of
    whole, or are 0, wherever the kernel is right.
    """

    def __init__(self, minors, lines, columns):
        self.level = minors.minor(lines, columns)
        self.shares = {line: () for line in lines}
        self.others = {column: () for column in columns}
        self.whole = ()
        for a in range(len(lines)):
            for b in range(len(columns)):
                rest = minors.minor(without(lines, a), without(columns, b))
                part = row_times(rest, 1 - 2 * ((a + b) % 2))
                self.shares[lines[a]] = row_sum(self.shares[lines[a]], part)
                self.others[columns[b]] = row_sum(self.others[columns[b]], part)
                self.whole = row_sum(self.whole, part)
        tests = list(self.shares.values()) + list(self.others.values()) + self.losses(minors.table)
        self.tests = [row for row in tests if row]

    def losses(self, table):
        """What each move beyond the kernel loses."""
        found = []
        for i in range(len(table)):
            if i not in self.shares:
                reached = sum_of_products([(table[i][j], part) for j, part in self.others.items()])
                found.append(row_sum(self.level, row_times(reached, -1)))
        for j in range(len(table[0])):
            if j not in self.others:
                reached = sum_of_products([(table[i][j], part) for i, part in self.shares.items()])
                found.append(row_sum(reached, row_times(self.level, -1)))
        return found

    def is_right_behind(self, ratio):
        """Whether the kernel is right at all numbers just behind a ratio."""
        if not self.whole:
            return False
        sign = sign_after(self.whole, ratio)
        for row in self.tests:
            if sign_after(row, ratio) != sign:
                return False
        return True


def kernels_of(table):
    """All kernels of a table, the small ones first."""
    minors = Minors(table)
    found = []
    for size in range(1, min(len(table), len(table[0])) + 1):
        for lines in combinations(range(len(table)), size):
            for columns in combinations(range(len(table[0])), size):
                found.append(Kernel(minors, lines, columns))
    return found
