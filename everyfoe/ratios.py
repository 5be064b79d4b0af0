"""Exact fractions as texts."""

from everyfoe.errors import BadNumber, BadText, TooLarge
from everyfoe.exact import DIGITS, MOST_DIGITS, as_ratio, digits_of, is_ratio, lowest


def digits_end(text, start):
    """The index behind the digits that begin at start."""
    end = start
    while end < len(text) and text[end] in DIGITS:
        end = end + 1
    return end


def ratio_of(text):
    """The ratio of a text such as -12/34."""
    if not isinstance(text, str):
        raise BadText(0, 0)
    start = 1 if text.startswith("-") else 0
    slash = digits_end(text, start)
    if slash == start:
        raise BadText(1, slash + 1)
    end = slash
    if text[slash:slash + 1] == "/":
        end = digits_end(text, slash + 1)
        if end == slash + 1:
            raise BadText(1, end + 1)
    if end < len(text):
        raise BadText(1, end + 1)
    below = text[slash + 1:end]
    for row in (text[start:slash], below):
        if len(row) > MOST_DIGITS:
            raise TooLarge("digits", len(row), MOST_DIGITS)
    if below == "":
        return (int(text[:slash]), 1)
    if int(below) == 0:
        raise BadText(1, slash + 2)
    return lowest(int(text[:slash]), int(below))


def ratio_text(ratio):
    """The shortest text of a ratio."""
    if not is_ratio(ratio):
        raise BadNumber("ratio", ratio)
    top, bottom = as_ratio(ratio)
    many = max(digits_of(top), digits_of(bottom))
    if many > MOST_DIGITS:
        raise TooLarge("digits", many, MOST_DIGITS)
    if bottom == 1:
        return str(top)
    return f"{top}/{bottom}"
