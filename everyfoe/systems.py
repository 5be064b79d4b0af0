"""Systems of equations, each with exactly one answer, whose numbers are
ratios or polynomials in one letter.

A system in a letter is solved at as many integers as the degrees ask for; the
determinants that come out are polynomials, which are found from their values.
"""

from math import gcd, lcm

from everyfoe.amounts import lifted
from everyfoe.exact import lowest
from everyfoe.quotients import Quotient, over_one_bottom
from everyfoe.rows import content, row_product, row_times, trimmed
from everyfoe.solving import first_entry, whole_row


def whole_line(line):
    """The amounts of a line as rows of integers: all of them times the same
    number, without a common divisor."""
    parts = [lifted(amount, True) for amount in line]
    scale = 1
    for part in parts:
        scale = lcm(scale, part.bottom[0])
    rows = [row_times(part.top, scale // part.bottom[0]) for part in parts]
    shared = 0
    for row in rows:
        shared = gcd(shared, content(row))
    return [tuple([item // shared for item in row]) for row in rows]


def degree(rows):
    """The greatest degree of a row among these, 0 if all are constant."""
    return max([1] + [len(row) for row in rows]) - 1


def most_degree(lines):
    """A degree that no determinant of the lines has more of."""
    by_lines = sum([degree(line) for line in lines])
    by_columns = sum([degree([line[j] for line in lines]) for j in range(len(lines[0]))])
    return min(by_lines, by_columns)


def value_of(row, place):
    """The value of a row at an integer."""
    found = 0
    for item in row[::-1]:
        found = found * place + item
    return found


def determined(lines, many):
    """A pair: the determinant of the first many columns of a square system of
    integers, and for each line its unknown's answers times the determinant.
    None if the determinant is 0.

    Each step drops a column. The divisions leave no rest, as all items are
    minors of the first lines.
    """
    divisor = 1
    sign = 1
    for k in range(many):
        at = first_entry(lines, k, 0)
        if at is None:
            return None
        if at != k:
            swapped = list(lines)
            swapped[k], swapped[at] = lines[at], lines[k]
            lines = swapped
            sign = -sign
        lead = lines[k]
        divided = [reduced(line, lead, divisor) for line in lines]
        divided[k] = lead[1:]
        lines = divided
        divisor = lead[0]
    return divisor * sign, [[item * sign for item in line] for line in lines]


def reduced(line, lead, divisor):
    """The line less so much of the leading one that its first item would be
    0, without that item."""
    top = lead[0]
    factor = line[0]
    return [(top * a - factor * b) // divisor for a, b in zip(line[1:], lead[1:])]


def interpolated(places, values):
    """The row whose values at these integers are these: of no higher degree
    than there are places, less one. Its items are integers."""
    steps = list(values)
    for k in range(1, len(places)):
        for j in range(len(places) - 1, k - 1, -1):
            steps[j] = (steps[j] - steps[j - 1]) // (places[j] - places[j - k])
    row = []
    for k in range(len(places) - 1, -1, -1):
        row = [0] + row
        for j in range(len(row) - 1):
            row[j] = row[j] - places[k] * row[j + 1]
        row[0] = row[0] + steps[k]
    return trimmed(row)


def answers(lines, many, lettered):
    """The answers of a system: the first many amounts of a line are those by
    which the unknowns are multiplied, each further one is a right side. There
    are as many lines as unknowns. The unknowns are multiplied by ratios or
    polynomials, the right sides may be any amounts. Returns for each unknown
    the list of its amounts, one for each right side."""
    if not lettered:
        bottom, tops = determined([whole_row(line) for line in lines], many)
        return [[lowest(top, bottom) for top in line] for line in tops]
    sides = [over_one_bottom([line[j] for line in lines]) for j in range(many, len(lines[0]))]
    plain = []
    for k in range(len(lines)):
        plain.append(list(lines[k][:many]) + [Quotient(tops[k]) for tops, _ in sides])
    bottom, found = rows_of_answers([whole_line(line) for line in plain], many)
    below = [row_product(bottom, row) for _, row in sides]
    return [[Quotient(tops[j], below[j]) for j in range(len(below))] for tops in found]


def rows_of_answers(lines, many):
    """The answers of a system of rows: a row, and for each unknown the rows of
    its answers times that one."""
    most = most_degree(lines)
    places = []
    found = []
    place = 2
    while len(places) <= most:
        parts = determined([[value_of(row, place) for row in line] for line in lines], many)
        if parts is not None:
            places.append(place)
            found.append(parts)
        place = place + 1
    bottom = interpolated(places, [parts[0] for parts in found])
    out = []
    for k in range(many):
        sides = [[parts[1][k][j] for parts in found] for j in range(len(lines[0]) - many)]
        out.append([interpolated(places, tops) for tops in sides])
    return bottom, out
