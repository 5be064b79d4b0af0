"""Amounts: ratios, or Quotients where a letter is about. All amounts that
are reckoned with each other are of one kind."""

from everyfoe.exact import lowest, plus
from everyfoe.quotients import Quotient, polynomial


def lifted(number, lettered):
    """The number as a Quotient if there is a letter, else as it is."""
    if lettered and not isinstance(number, Quotient):
        return polynomial([number])
    return number


def amount_of(top, bottom, lettered):
    """The amount that two rows tell, which are numbers if there is no letter."""
    if lettered:
        return Quotient(top, bottom)
    return lowest(top[0] if top else 0, bottom[0])


def times(one, other):
    """The product of two amounts."""
    if isinstance(one, Quotient):
        return one * other
    return lowest(one[0] * other[0], one[1] * other[1])


def added(one, other):
    """The sum of two amounts."""
    if isinstance(one, Quotient):
        return one + other
    return plus(one, other)


def negative(amount):
    """The amount with its sign changed."""
    if isinstance(amount, Quotient):
        return -amount
    return (-amount[0], amount[1])


def nothing(lettered):
    """The amount 0."""
    return lifted((0, 1), lettered)


def whole(lettered):
    """The amount 1."""
    return lifted((1, 1), lettered)


def put(table, key, amount):
    """Add the amount to that of the key in the table."""
    table[key] = added(table[key], amount) if key in table else amount


def total(amounts, lettered):
    """The sum of the amounts."""
    found = nothing(lettered)
    for amount in amounts:
        found = added(found, amount)
    return found


def key_of(amount):
    """What equal amounts have in common, as a key of a dict."""
    if isinstance(amount, Quotient):
        return (amount.top, amount.bottom)
    return amount
