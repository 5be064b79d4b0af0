"""Rows: polynomials in one letter with integers, lowest power first.

A row is a tuple of integers that is empty or whose last integer is not 0.
"""

from math import gcd, lcm

from everyfoe.exact import inverse, is_integer, lowest

PRIME = 1073741789


def is_row(value):
    """Whether the value is a row."""
    if not isinstance(value, tuple):
        return False
    for item in value:
        if not is_integer(item):
            return False
    return len(value) == 0 or value[-1] != 0


def trimmed(items):
    """The row of these integers: without the zeros at the end."""
    many = len(items)
    while many > 0 and items[many - 1] == 0:
        many = many - 1
    return tuple(items[:many])


def row_sum(one, other):
    if len(one) < len(other):
        return row_sum(other, one)
    return trimmed([one[k] + (other[k] if k < len(other) else 0) for k in range(len(one))])


def row_times(row, number):
    """The row times an integer."""
    return trimmed([item * number for item in row])


def row_product(one, other):
    if len(one) == 0 or len(other) == 0:
        return ()
    out = [0] * (len(one) + len(other) - 1)
    for i in range(len(one)):
        for j in range(len(other)):
            out[i + j] = out[i + j] + one[i] * other[j]
    return tuple(out)


def slope(row):
    """The derivative of a row."""
    return tuple([k * row[k] for k in range(1, len(row))])


def content(row):
    """The greatest integer that divides all items; 0 for the empty row."""
    shared = 0
    for item in row:
        shared = gcd(shared, item)
    return shared


def primitive(row):
    """The row without its content, its last item above 0."""
    shared = content(row)
    if shared == 0:
        return ()
    if row[-1] < 0:
        shared = -shared
    return tuple([item // shared for item in row])


def row_divided(row, by):
    """The row by which the second one is to be multiplied to give the first
    one, or None if there is none with integers. The second one is not empty."""
    if len(row) == 0:
        return ()
    rest = list(row)
    out = [0] * (len(row) - len(by) + 1)
    for k in range(len(row) - len(by), -1, -1):
        lead = rest[k + len(by) - 1]
        if lead % by[-1] != 0:
            return None
        out[k] = lead // by[-1]
        for j in range(len(by)):
            rest[k + j] = rest[k + j] - out[k] * by[j]
    if any(rest):
        return None
    return tuple(out)


def value_parts(row, top, bottom):
    """A pair: the value of the row at top / bottom, times bottom to the power
    of the degree, and bottom to the power of the length."""
    total = 0
    power = 1
    for item in row[::-1]:
        total = total * top + item * power
        power = power * bottom
    return total, power


def value_at(row, top, bottom):
    """The value of the row at top / bottom, times bottom to the power of the
    degree: with a bottom above 0 it has the sign of the value."""
    total, _ = value_parts(row, top, bottom)
    return total


def row_value(row, ratio):
    """The value of the row at a ratio, a pair."""
    total, power = value_parts(row, ratio[0], ratio[1])
    return lowest(total * ratio[1], power)


def are_apart(one, other):
    """Whether two rows of at least two items are seen to have no common
    divisor of degree 1 or more, by Euclid's steps modulo a prime.

    A common divisor has the same degree modulo the prime if that does not
    divide its last item; and it does not if it does not divide that of one of
    the rows.
    """
    if one[-1] % PRIME == 0:
        return False
    first = [item % PRIME for item in one]
    second = list(trimmed([item % PRIME for item in other]))
    while len(second) > 1:
        first, second = second, rest_modulo(first, second)
    return len(second) == 1


def rest_modulo(items, by):
    """What is left of the items when they are divided by others, modulo the
    prime."""
    rest = list(items)
    back = inverse(by[-1], PRIME)
    while len(rest) >= len(by):
        factor = rest[-1] * back % PRIME
        shift = len(rest) - len(by)
        rest = rest[:shift] + [(a - factor * b) % PRIME for a, b in zip(rest[shift:], by)]
        rest = list(trimmed(rest))
    return rest


def common(one, other):
    """The greatest common divisor of two rows, primitive.

    The rows are read at a large integer. The digits of the common divisor of
    the two values, in that base, are a common divisor of the rows up to an
    integer, or the base was too small. If the row that is read off divides
    both rows, it is the greatest that does, because the base is more than
    twice as large as the items of one of them.
    """
    one = primitive(one)
    other = primitive(other)
    if len(one) == 0 or len(other) == 0:
        return one if len(other) == 0 else other
    if len(one) == 1 or len(other) == 1 or are_apart(one, other):
        return (1,)
    base = 2 * min(greatest_item(one), greatest_item(other)) + 29
    while True:
        shared = gcd(value_at(one, base, 1), value_at(other, base, 1))
        found = primitive(digits_in(shared, base))
        if row_divided(one, found) is not None and row_divided(other, found) is not None:
            return found
        base = base * base // 7 + 3


def shared_multiple(one, other):
    """The least row that both rows, which are not empty, divide."""
    if one == other or row_divided(one, other) is not None:
        return one
    if len(one) == 1 and len(other) == 1:
        return (lcm(one[0], other[0]),)
    scale = lcm(content(one), content(other))
    product = row_product(primitive(one), row_divided(primitive(other), common(one, other)))
    return row_times(product, scale)


def greatest_item(row):
    return max([abs(item) for item in row])


def digits_in(number, base):
    """The row of the digits of a number above 0, from -base / 2 to base / 2."""
    out = []
    rest = number
    while rest != 0:
        digit = rest % base
        if 2 * digit > base:
            digit = digit - base
        out.append(digit)
        rest = (rest - digit) // base
    return trimmed(out)
