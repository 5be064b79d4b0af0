"""Equations, solved exactly."""

from everyfoe.errors import BadNumber, NoSolution
from everyfoe.exact import as_ratio, is_ratio, lowest, shared_bottom


def check_entries(entries):
    """Raise BadNumber for the first entry that is not a ratio."""
    for value in entries:
        if not is_ratio(value):
            raise BadNumber("entry", value)


def whole_row(entries):
    """The entries times their shared bottom: a list of integers."""
    ratios = [as_ratio(value) for value in entries]
    scale = shared_bottom(ratios)
    return [top * (scale // bottom) for top, bottom in ratios]


def pivoted(lines, at, column, divisor):
    """The lines of integers after the line at this place is taken away from
    all others, so that their items of the column are 0.

    divisor is the item that the step before was made with: as all items are
    minors of the first lines, it divides without a rest.
    """
    lead = lines[at]
    top = lead[column]
    out = []
    for k in range(len(lines)):
        if k == at:
            out.append(lead)
        else:
            line = lines[k]
            factor = line[column]
            out.append([(top * a - factor * b) // divisor for a, b in zip(line, lead)])
    return out


def first_entry(lines, start, column):
    """The first line from start on whose item of the column is not 0, or None."""
    for k in range(start, len(lines)):
        if lines[k][column] != 0:
            return k
    return None


def eliminated(lines, many):
    """A pair: the lines after all of the first many columns are eliminated,
    those with a leading item ahead, and the columns of the leading items."""
    columns = []
    divisor = 1
    for column in range(many):
        done = len(columns)
        at = first_entry(lines, done, column)
        if at is not None:
            swapped = list(lines)
            swapped[done], swapped[at] = lines[at], lines[done]
            lines = pivoted(swapped, done, column, divisor)
            divisor = lines[done][column]
            columns.append(column)
    return lines, columns


def solved(rows, right):
    """The only tuple x such that each row times x is its item of right."""
    for row in rows:
        check_entries(row)
    check_entries(right)
    many = len(rows[0])
    lines = [whole_row(list(rows[k]) + [right[k]]) for k in range(len(rows))]
    lines, columns = eliminated(lines, many)
    if len(columns) < many:
        raise NoSolution()
    for line in lines[many:]:
        if line[many] != 0:
            raise NoSolution()
    return tuple([lowest(lines[k][many], lines[k][k]) for k in range(many)])


def rank(rows):
    """The greatest number of rows that are independent."""
    for row in rows:
        check_entries(row)
    lines = [whole_row(row) for row in rows]
    _, columns = eliminated(lines, len(rows[0]))
    return len(columns)
