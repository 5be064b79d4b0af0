"""Integers and ratios as values, and how one reckons with them.

The functions that reckon take and return ratios as pairs in lowest terms.
"""

from math import gcd

DIGITS = "0123456789"
MOST_DIGITS = 4000
ZERO = (0, 1)
ONE = (1, 1)


def is_integer(value):
    """Whether the value is an int that is not a bool."""
    return isinstance(value, int) and not isinstance(value, bool)


def is_ratio(value):
    """Whether the value may be passed as a ratio."""
    if is_integer(value):
        return True
    if not isinstance(value, tuple) or len(value) != 2:
        return False
    return is_integer(value[0]) and is_integer(value[1]) and value[1] > 0


def lowest(top, bottom):
    """The ratio top / bottom; bottom is not 0, but may be below 0."""
    shared = gcd(top, bottom)
    if bottom < 0:
        shared = -shared
    return (top // shared, bottom // shared)


def as_ratio(value):
    """The ratio that is passed as an integer or a pair."""
    if isinstance(value, int):
        return (value, 1)
    return lowest(value[0], value[1])


def plus(one, other):
    return lowest(one[0] * other[1] + other[0] * one[1], one[1] * other[1])


def minus(one, other):
    return lowest(one[0] * other[1] - other[0] * one[1], one[1] * other[1])


def sign_of(number):
    """The sign of an integer: 1, -1 or 0."""
    if number > 0:
        return 1
    if number < 0:
        return -1
    return 0


def order(one, other):
    """-1, 0 or 1 if one is below, equal to or above other."""
    return sign_of(one[0] * other[1] - other[0] * one[1])


def middle(one, other):
    """The ratio halfway between two ratios."""
    return lowest(one[0] * other[1] + other[0] * one[1], 2 * one[1] * other[1])


def inverse(number, modulus):
    """The integer by which number is to be multiplied to give 1, up to a
    multiple of modulus; None if both have a common divisor."""
    a, b = number % modulus, modulus
    x, y = 1, 0
    while b != 0:
        whole = a // b
        a, b = b, a - whole * b
        x, y = y, x - whole * y
    return x % modulus if a == 1 else None


def shared_bottom(ratios):
    """The least integer above 0 that all bottoms divide."""
    shared = 1
    for ratio in ratios:
        shared = shared // gcd(shared, ratio[1]) * ratio[1]
    return shared


def simplest(low, high):
    """The ratio strictly between low and high, low below high, with the
    least bottom."""
    if low[0] < 0 < high[0]:
        return ZERO
    if high[0] <= 0:
        top, bottom = simplest_above((-high[0], high[1]), (-low[0], low[1]))
        return (-top, bottom)
    return simplest_above(low, high)


def simplest_above(low, high):
    """The same for a low from 0 on: the continued fractions of both ends are
    followed as far as they agree."""
    a, b = low
    c, d = high
    p, q, next_p, next_q = 0, 1, 1, 0
    while (a // b + 1) * d >= c:
        whole = a // b
        p, q, next_p, next_q = next_p, next_q, whole * next_p + p, whole * next_q + q
        a, b, c, d = d, c - whole * d, b, a - whole * b
    whole = a // b + 1
    return (whole * next_p + p, whole * next_q + q)


def digits_of(number):
    """How many digits an integer has, found without writing it: Python does
    not write integers of more than 4300 digits."""
    rest = abs(number)
    powers = [(10, 1)]
    while powers[-1][0] <= rest:
        power, size = powers[-1]
        powers.append((power * power, 2 * size))
    many = 1
    for power, size in reversed(powers):
        if rest >= power:
            rest = rest // power
            many = many + size
    return many
