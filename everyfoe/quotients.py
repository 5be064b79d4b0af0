"""Quotients of two rows, always in lowest terms."""

from math import gcd

from everyfoe.errors import BadNumber, BadText, NotPlain, TooLarge
from everyfoe.exact import (
    MOST_DIGITS,
    as_ratio,
    digits_of,
    is_integer,
    is_ratio,
    lowest,
    plus,
    shared_bottom,
)
from everyfoe.ratios import ratio_text
from everyfoe.rows import (
    common,
    content,
    is_row,
    row_divided,
    row_product,
    row_sum,
    row_times,
    row_value,
    shared_multiple,
    trimmed,
)
from everyfoe.terms import read_terms

MOST_POWER = 6


def lowest_rows(top, bottom):
    """The pair of the rows of a quotient in its lowest terms."""
    if len(top) == 0:
        return (), (1,)
    if len(top) > 1 and len(bottom) > 1:
        shared = common(top, bottom)
        top = row_divided(top, shared)
        bottom = row_divided(bottom, shared)
    factor = gcd(content(top), content(bottom))
    if [item for item in bottom if item != 0][0] < 0:
        factor = -factor
    return tuple([item // factor for item in top]), tuple([item // factor for item in bottom])


class Quotient:
    """A row divided by a row."""

    def __init__(self, top, bottom=(1,)):
        if not is_row(top):
            raise BadNumber("top", top)
        if not is_row(bottom) or len(bottom) == 0:
            raise BadNumber("bottom", bottom)
        above, below = lowest_rows(top, bottom)
        self.top = above
        self.bottom = below

    def __eq__(self, other):
        return isinstance(other, Quotient) and self.top == other.top and self.bottom == other.bottom

    def __neg__(self):
        return Quotient(row_times(self.top, -1), self.bottom)

    def __add__(self, other):
        if is_integer(other):
            return Quotient(row_sum(self.top, row_times(self.bottom, other)), self.bottom)
        if not isinstance(other, Quotient):
            return NotImplemented
        if self.bottom == other.bottom:
            return Quotient(row_sum(self.top, other.top), self.bottom)
        top = row_sum(row_product(self.top, other.bottom), row_product(other.top, self.bottom))
        return Quotient(top, row_product(self.bottom, other.bottom))

    def __sub__(self, other):
        if not is_integer(other) and not isinstance(other, Quotient):
            return NotImplemented
        return self + -other

    def __mul__(self, other):
        if is_integer(other):
            return Quotient(row_times(self.top, other), self.bottom)
        if not isinstance(other, Quotient):
            return NotImplemented
        return Quotient(row_product(self.top, other.top), row_product(self.bottom, other.bottom))

    def over(self, other):
        """This quotient divided by a Quotient or an integer."""
        divisor = Quotient(trimmed([other])) if is_integer(other) else other
        if len(divisor.top) == 0:
            raise BadNumber("bottom", ())
        return Quotient(row_product(self.top, divisor.bottom), row_product(self.bottom, divisor.top))

    def at(self, ratio):
        """The value at a ratio, a ratio."""
        if not is_ratio(ratio):
            raise BadNumber("at", ratio)
        place = as_ratio(ratio)
        below = row_value(self.bottom, place)
        if below[0] == 0:
            raise BadNumber("at", ratio)
        above = row_value(self.top, place)
        return lowest(above[0] * below[1], above[1] * below[0])


def is_constant(quotient):
    return len(quotient.top) < 2 and len(quotient.bottom) == 1


def polynomial(ratios):
    """The polynomial with these multiples of the powers, the lowest first."""
    shared = shared_bottom(ratios)
    return Quotient(trimmed([top * (shared // bottom) for top, bottom in ratios]), (shared,))


def over_one_bottom(quotients):
    """A pair: the tops of the quotients over one row, and that row, which all
    of their bottoms divide."""
    bottom = (1,)
    for quotient in quotients:
        bottom = shared_multiple(bottom, quotient.bottom)
    return [row_product(part.top, row_divided(bottom, part.bottom)) for part in quotients], bottom


def quotient_of(text):
    """The polynomial of a text such as 1/2-3*e^2."""
    if not isinstance(text, str):
        raise BadText(0, 0)
    terms = read_terms(text)
    for term in terms:
        for digits in term[1:3]:
            if len(digits) > MOST_DIGITS:
                raise TooLarge("digits", len(digits), MOST_DIGITS)
    ratios = [(0, 1)] * (MOST_POWER + 1)
    for sign, above, below, power in terms:
        ratios[power] = plus(ratios[power], lowest(sign * int(above), int(below)))
    return polynomial(ratios)


def multiples(quotient):
    """The ratios by which the powers of a polynomial are multiplied."""
    return [lowest(item, quotient.bottom[0]) for item in quotient.top]


def text_digits(quotient):
    """The greatest number of digits of an integer in the text of a
    polynomial."""
    return max([1] + [max(digits_of(top), digits_of(bottom)) for top, bottom in multiples(quotient)])


def quotient_text(quotient):
    """The text of a polynomial."""
    if len(quotient.bottom) > 1:
        raise NotPlain("bottom")
    power = len(quotient.top) - 1
    if power > MOST_POWER:
        raise TooLarge("power", power, MOST_POWER)
    ratios = multiples(quotient)
    many = text_digits(quotient)
    if many > MOST_DIGITS:
        raise TooLarge("digits", many, MOST_DIGITS)
    text = ""
    for k in range(len(ratios)):
        if ratios[k][0] != 0:
            term = term_text(ratios[k], k)
            text = text + ("+" if text != "" and ratios[k][0] > 0 else "") + term
    return text if text != "" else "0"


def term_text(ratio, power):
    """The text of a term, with its - if it is below 0."""
    if power == 0:
        return ratio_text(ratio)
    letter = "e" if power == 1 else f"e^{power}"
    if ratio == (1, 1):
        return letter
    if ratio == (-1, 1):
        return "-" + letter
    return ratio_text(ratio) + "*" + letter
