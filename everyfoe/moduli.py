"""Numbers modulo which one reckons."""

LEAST = 2 ** 61
MOST = (2 ** 64) ** 10
SMALL = (
    3, 5, 7, 11, 13, 17, 19, 23, 29, 31, 37, 41, 43, 47, 53, 59, 61, 67, 71, 73, 79, 83, 89, 97,
    101, 103, 107, 109, 113, 127, 131, 137, 139, 149, 151, 157, 163, 167, 173, 179, 181, 191, 193, 197, 199,
)


def next_modulus(number):
    """The next odd number that no small prime divides: modulo such a one
    hardly any number has no inverse."""
    found = number + 1 + number % 2
    while any([found % prime == 0 for prime in SMALL]):
        found = found + 2
    return found


def first_modulus(limit):
    """A modulus above a limit, or, if that is very great, one of the size that
    is reckoned with in the least time."""
    return next_modulus(max(LEAST, min(MOST, limit)))
