import random
from fractions import Fraction
from math import comb

from everyfoe.borders import Border, compared, roots_within
from everyfoe.errors import BadNumber
from everyfoe.quotients import Quotient, quotient_of
from everyfoe.signs import OneSign, is_chance, one_sign, sign_within, spread
from tests.helper import CheckCase, fraction, pair
from tests.test_borders import NO_RATIOS, NO_ROWS, TINY, linear, product, square, value_of

LARGE = 10 ** 30


def plain_spread(row, low, high):
    """The numbers of the spread, each power put in on its own."""
    low, high = fraction(low), fraction(high)
    degree = len(row) - 1
    found = [Fraction(0)] * len(row)
    for k, item in enumerate(row):
        for i in range(k + 1):
            for j in range(degree - k + 1):
                found[i + j] += item * comb(k, i) * low ** (k - i) * high ** i * comb(degree - k, j)
    return tuple(pair(value) for value in found)


def added(row, number):
    return (row[0] + number, *row[1:])


def times(row, number):
    return tuple(item * number for item in row)


class SignWithinTest(CheckCase):
    def test_ratios_as_ends(self):
        for row, low, high, sign in [
            ((), 0, 1, 0), ((3,), 0, 1, 1), ((-3,), -5, 1, -1), ((0, 1), 0, 1, 1), ((0, 1), -1, 0, -1), ((0, 1), -1, 1, None),
            ((0, 0, 1), -1, 1, None), ((0, 0, 1), 0, 1, 1), ((1, 0, 1), -9, 9, 1), ((-1, 2), (1, 2), 1, 1),
            ((-1, 2), 0, (1, 2), -1), (product((-1, 2), (-1, 2)), 0, 1, None), (product((0, 1), (1, -1)), 0, 1, 1),
            (product((0, 1), (-1, 1), (-1, 1)), 0, 1, 1), (square(2), 0, 1, -1), (square(2), 1, 2, None),
        ]:
            self.assertEqual(sign_within(row, low, high), sign, (row, low, high))

    def test_near_roots(self):
        for shift, sign in [(TINY, -1), (0, -1), (-TINY, None)]:
            self.assertEqual(sign_within(linear(1 + shift), 0, 1), sign)
        self.assertEqual(sign_within(linear(-TINY), 0, 1), 1)
        self.assertIsNone(sign_within(linear(TINY), 0, 1))
        double = product((-1, 2), (-1, 2))
        self.assertEqual(sign_within(added(times(double, LARGE), 1), 0, 1), 1)
        self.assertIsNone(sign_within(added(times(double, LARGE), -1), 0, 1))
        self.assertIsNone(sign_within(double, 0, 1))

    def test_borders_as_ends(self):
        root = roots_within((-2, 0, 1), 0, 2)[0]
        other = roots_within((-3, 0, 1), 0, 2)[0]
        half = Border((-1, 2), 0, 1)
        self.assertEqual(sign_within(square(2), root, other), 1)
        self.assertEqual(sign_within(square(2), 0, root), -1)
        self.assertEqual(sign_within(product(square(2), square(2)), 0, root), 1)
        self.assertIsNone(sign_within(product(square(2), square(2)), 0, other))
        self.assertIsNone(sign_within((-3, 2), root, other))
        self.assertEqual(sign_within((-1, 2), half, root), 1)
        self.assertEqual(sign_within((), half, root), 0)

    def test_errors(self):
        root = roots_within((-2, 0, 1), 0, 2)[0]
        for value in NO_ROWS:
            if value != ():
                self.check_error(BadNumber, ("row", value), sign_within, value, "x", "y")
        for row in [(), (0, 1)]:
            for value in NO_RATIOS:
                self.check_error(BadNumber, ("low", value), sign_within, row, value, "y")
                self.check_error(BadNumber, ("high", value), sign_within, row, 0, value)
            self.check_error(BadNumber, ("high", (0, 2)), sign_within, row, 0, (0, 2))
            self.check_error(BadNumber, ("high", 1), sign_within, row, root, 1)


class SpreadTest(CheckCase):
    def test_spreads(self):
        self.assertEqual(spread((), 0, 1), ())
        self.assertEqual(spread((5,), 0, 1), ((5, 1),))
        self.assertEqual(spread((1, 2, 3), 0, 1), ((1, 1), (4, 1), (6, 1)))
        self.assertEqual(spread((0, 1), (-1, 2), (2, 3)), ((-1, 2), (2, 3)))
        self.assertEqual(spread((-1, 1), 1, 2), ((0, 1), (1, 1)))

    def test_random_spreads(self):
        chance = random.Random(1)
        for size in (3, LARGE):
            for _ in range(100):
                row = tuple(chance.randrange(-size, size) for _ in range(chance.randrange(7))) + (chance.randrange(1, size),)
                low = Fraction(chance.randrange(-size, size), chance.randrange(1, size))
                high = low + Fraction(chance.randrange(1, size), chance.randrange(1, size))
                found = spread(row, pair(low), pair(high))
                self.assertEqual(found, plain_spread(row, low, high))
                self.assertEqual((found[0], found[-1]), (pair(value_of(row, low)), pair(value_of(row, high))))

    def check_errors(self, call):
        for value in NO_ROWS:
            if value != ():
                self.check_error(BadNumber, ("row", value), call, value, "x", "y")
        for row in [(), (0, 1)]:
            for value in NO_RATIOS + [Border((-1, 2), 0, 1)]:
                self.check_error(BadNumber, ("low", value), call, row, value, "y")
                self.check_error(BadNumber, ("high", value), call, row, 0, value)
            self.check_error(BadNumber, ("high", (0, 2)), call, row, 0, (0, 2))
            self.check_error(BadNumber, ("high", -1), call, row, 0, -1)

    def test_errors(self):
        self.check_errors(spread)
        self.check_errors(one_sign)


class OneSignTest(CheckCase):
    def check_cuts(self, row, low, high, sign):
        """The cuts are checked by the spread of each part."""
        found = one_sign(row, low, high)
        self.assertIs(type(found), OneSign)
        self.assertEqual(found.sign, sign)
        self.assertIs(type(found.cuts), tuple)
        self.assertEqual((found.cuts[0], found.cuts[-1]), (pair(fraction(low)), pair(fraction(high))))
        for one, other in zip(found.cuts, found.cuts[1:]):
            self.check_ratio(other)
            self.assertEqual(compared(one, other), -1)
            for number in plain_spread(row, one, other):
                self.assertGreaterEqual(number[0] * sign, 0)
        for cut in found.cuts[1:-1]:
            self.assertNotEqual(value_of(row, fraction(cut)), 0)
        return found

    def test_rows_with_a_sign(self):
        self.check_cuts((3,), 0, 1, 1)
        self.check_cuts((-3,), (1, 3), (2, 3), -1)
        self.check_cuts((0, 1), 0, 1, 1)
        self.check_cuts((0, -1), 0, 5, -1)
        self.check_cuts((1, 0, 1), -9, 9, 1)
        self.check_cuts(product((0, 1), (0, 1), (1, -1), (1, -1), (1, -1)), 0, 1, 1)
        self.check_cuts(square(2), -1, 1, -1)
        self.check_cuts(linear(1 + TINY), 0, 1, -1)
        self.check_cuts(product(linear(1 + TINY), linear(-TINY)), 0, 1, -1)

    def test_rows_that_are_nearly_0(self):
        for number in (1, -1):
            for place in ((-1, 2), (-1, 3), (-2, 5)):
                row = times(added(times(product(place, place), LARGE), 1), number)
                found = self.check_cuts(row, 0, 1, number)
                self.assertGreater(len(found.cuts), 2)
        row = added(times(product((-1, 3), (-1, 3), (-2, 3), (-2, 3)), LARGE), 1)
        self.check_cuts(row, 0, 1, 1)
        self.check_cuts(product(row, (0, 1), (1, -1)), 0, 1, 1)

    def test_random_rows(self):
        chance = random.Random(2)
        for _ in range(300):
            row = tuple(chance.randrange(-9, 10) for _ in range(chance.randrange(7))) + (chance.choice([-3, -1, 1, 2]),)
            low = Fraction(chance.randrange(-5, 5), chance.randrange(1, 5))
            high = low + Fraction(chance.randrange(1, 9), chance.randrange(1, 5))
            sign = sign_within(row, pair(low), pair(high))
            if sign is None:
                self.assertIsNone(one_sign(row, pair(low), pair(high)))
                self.assertTrue(roots_within(row, pair(low), pair(high)))
            else:
                self.check_cuts(row, pair(low), pair(high), sign)

    def test_rows_without_a_sign(self):
        for row in [(-1, 2), product((-1, 2), (-1, 2)), linear(TINY), linear(1 - TINY), square(Fraction(1, 2)), product((0, 1), (-1, 2))]:
            self.assertIsNone(one_sign(row, 0, 1))
        self.assertIsNone(one_sign(product(square(2), square(2)), 0, 2))

    def test_the_empty_row(self):
        found = one_sign((), (2, 4), 1)
        self.assertEqual((found.sign, found.cuts), (0, ((1, 2), (1, 1))))

    def test_the_object(self):
        found = OneSign(1, ((0, 1), (1, 1)))
        self.assertEqual((found.sign, found.cuts), (1, ((0, 1), (1, 1))))


class ChanceTest(CheckCase):
    def test_polynomials(self):
        for text, fits in [
            ("0", False), ("1", True), ("-1", False), ("2", True), ("1/7", True), ("e", True), ("-e", False), ("1-e", True),
            ("e-1", False), ("1-2*e", False), ("1/2-1/2*e", True), ("e-e^2", True), ("e^2-e", False), ("e-e", False),
            ("1/4-e+e^2", False), ("1/3-e+e^2", True), ("1/5-e+e^2", False), ("e^6", True), ("1-e^6", True),
        ]:
            self.assertIs(is_chance(quotient_of(text)), fits, text)
        double = product((-1, 2), (-1, 2))
        self.assertIs(is_chance(Quotient(added(times(double, LARGE), 1))), True)
        self.assertIs(is_chance(Quotient(added(times(double, LARGE), -1))), False)

    def test_quotients(self):
        for top, bottom, fits in [
            ((1,), (1, 1), True), ((1,), (1, -1), True), ((-1,), (-1, 1), True), ((1,), (0, 1), True), ((1,), (-1, 2), False),
            ((-1, 2), (-1, 2), True), ((1,), product((-1, 2), (-1, 2)), False), ((), (1, 1), False), ((1, -2), (1, 1), False),
            ((1,), (-1, -1), False), ((0, 1), (2, -1), True), ((1,), square(2), False), ((-1,), square(2), True),
            ((-1,), square(Fraction(1, 2)), False),
        ]:
            self.assertIs(is_chance(Quotient(top, bottom)), fits, (top, bottom))
