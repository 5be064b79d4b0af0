"""Patience: what a chain is worth if later rounds count less, as quotients in
the letter x."""

from everyfoe.amounts import negative
from everyfoe.exact import ONE, ZERO
from everyfoe.quotients import Quotient, over_one_bottom, polynomial
from everyfoe.rows import primitive
from everyfoe.systems import answers

IMPATIENCE = (1, -1)


def patience_worths(start, rows, pays):
    """The pairs of the patience worths from all places of a chain, and behind
    them that from the start."""
    many = len(rows)
    lines = []
    for k in range(many):
        chances = {j: chance for j, chance in rows[k]}
        line = [polynomial([ONE if j == k else ZERO, negative(chances.get(j, ZERO))]) for j in range(many)]
        sides = [polynomial([pay, negative(pay)]) for pay in pays[k]]
        lines.append(line + [Quotient(())] + sides)
    last = [polynomial([negative(chance)]) for chance in start]
    lines.append(last + [Quotient((1,)), Quotient(()), Quotient(())])
    return [tuple(pair) for pair in answers(lines, many + 1, True)]


def recurrence_of(worths):
    """The shortest row that the pays behind these patience worths obey.

    Without the factor 1 - x, a patience worth is the sum of the pays times
    powers of x. Times a row it has only powers below a number if and only if
    the row, read backwards from that number on, is obeyed. The least such row
    is the shared bottom.
    """
    parts = [worth.over(Quotient(IMPATIENCE)) for worth in worths]
    tops, bottom = over_one_bottom(parts)
    most = max([len(bottom) - 1] + [len(top) for top in tops])
    return primitive(tuple([0] * (most + 1 - len(bottom)) + list(bottom[::-1])))
