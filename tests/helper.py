"""What the tests share."""

import unittest
from fractions import Fraction

from everyfoe.errors import FoeError


def fraction(ratio):
    """A ratio of the package, or one that is passed to it, as a Fraction."""
    return Fraction(*ratio) if isinstance(ratio, tuple) else Fraction(ratio)


def pair(number):
    """The pair of a number, as the package returns it."""
    number = Fraction(number)
    return (number.numerator, number.denominator)


class CheckCase(unittest.TestCase):
    def check_error(self, error, fields, call, *args, **named):
        """The call raises exactly this error with these fields, in order."""
        with self.assertRaises(FoeError) as caught:
            call(*args, **named)
        found = caught.exception
        self.assertEqual((type(found).__name__, list(vars(found).values())), (error.__name__, list(fields)))
        for value, given in zip(vars(found).values(), fields):
            self.assertIs(type(value), type(given))

    def check_ratio(self, value):
        """The value is a ratio as the package returns it."""
        self.assertIs(type(value), tuple)
        self.assertEqual([type(item) for item in value], [int, int])
        self.assertEqual(pair(fraction(value)), value)
