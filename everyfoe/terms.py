"""Texts of polynomials: how they are read term by term."""

from everyfoe.errors import BadText
from everyfoe.exact import DIGITS
from everyfoe.ratios import digits_end

POWERS = "23456"


def char_at(text, at):
    """The character at this index, or the empty string behind the end."""
    return text[at:at + 1]


def is_one_of(character, characters):
    return character != "" and character in characters


def integer_end(text, start):
    """The index behind the integer without leading zeros that begins here."""
    if char_at(text, start) == "0":
        return start + 1
    return digits_end(text, start)


def read_ratio(text, start):
    """A triple: the digits above and below the line of the RATIO that begins
    at start, and the index behind it."""
    end = integer_end(text, start)
    if char_at(text, end) != "/":
        return text[start:end], "1", end
    if not is_one_of(char_at(text, end + 1), DIGITS[1:]):
        raise BadText(1, end + 2)
    last = digits_end(text, end + 1)
    return text[start:end], text[end + 1:last], last


def read_power(text, start):
    """A pair: the power of the e that must stand at start, and the index
    behind it."""
    if char_at(text, start) != "e":
        raise BadText(1, start + 1)
    if char_at(text, start + 1) != "^":
        return 1, start + 1
    digit = char_at(text, start + 2)
    if not is_one_of(digit, POWERS):
        raise BadText(1, start + 3)
    return int(digit), start + 3


def read_term(text, start):
    """A pair: the term that begins at start, a triple of the digits above and
    below the line and the power, and the index behind it."""
    above, below, at = "1", "1", start
    if is_one_of(char_at(text, start), DIGITS):
        above, below, at = read_ratio(text, start)
        if char_at(text, at) != "*":
            return (above, below, 0), at
        at = at + 1
    power, at = read_power(text, at)
    return (above, below, power), at


def read_terms(text):
    """The terms of a text: tuples of the sign, the digits above and below the
    line, and the power."""
    terms = []
    at = 0
    sign = 1
    if text.startswith("-"):
        at = 1
        sign = -1
    while True:
        (above, below, power), at = read_term(text, at)
        terms.append((sign, above, below, power))
        if at == len(text):
            return terms
        if not is_one_of(text[at], "+-"):
            raise BadText(1, at + 1)
        sign = 1 if text[at] == "+" else -1
        at = at + 1
