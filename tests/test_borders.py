import random
from fractions import Fraction

from everyfoe.borders import Border, between, compared, narrowed, roots_within, sign_at
from everyfoe.errors import BadNumber
from tests.helper import CheckCase, fraction, pair

NO_ROWS = [None, 0, 1, [], [1, 2], "1", (1, 0), (0,), (True, 1), (1, 1.0), ("1", 1), ((1, 2), 1)]
NO_RATIOS = [None, True, "1", 0.5, (1, 0), (1, -1), (1, 2, 3), [1, 2], (1, True), (), object()]
TINY = Fraction(1, 10 ** 30)


def product(*rows):
    found = (1,)
    for row in rows:
        out = [0] * (len(found) + len(row) - 1)
        for i, a in enumerate(found):
            for j, b in enumerate(row):
                out[i + j] += a * b
        found = tuple(out)
    return found


def linear(number):
    """The row with this root alone."""
    number = Fraction(number)
    return (-number.numerator, number.denominator)


def square(number):
    """The row whose roots are the two roots of a number."""
    number = Fraction(number)
    return (-number.numerator, 0, number.denominator)


def value_of(row, number):
    total = Fraction(0)
    for item in reversed(row):
        total = total * number + item
    return total


def sign_of(number):
    return (number > 0) - (number < 0)


def divided(one, other):
    """What is left of one row after other is taken away as often as it goes."""
    one = list(one)
    while len(one) >= len(other):
        factor = one[-1] / other[-1]
        for k in range(len(other)):
            one[len(one) - len(other) + k] -= factor * other[k]
        one.pop()
    while one and one[-1] == 0:
        one.pop()
    return one


def root_count(row, low, high):
    """How many roots a row has between two ratios that are no roots, told by
    the changes of sign along Sturm's chain."""
    chain = [[Fraction(item) for item in row], [Fraction(k * item) for k, item in enumerate(row)][1:]]
    while chain[-1]:
        chain.append([-item for item in divided(chain[-2], chain[-1])])
    counts = []
    for place in (low, high):
        signs = [sign_of(value_of(part, place)) for part in chain[:-1]]
        signs = [sign for sign in signs if sign]
        counts.append(sum(one != other for one, other in zip(signs, signs[1:])))
    return counts[0] - counts[1]


class BorderCase(CheckCase):
    def check_border(self, border):
        """A Border that is returned: it changes its sign, and stands for no ratio."""
        self.assertIs(type(border), Border)
        self.check_ratio(border.low)
        self.check_ratio(border.high)
        low, high = fraction(border.low), fraction(border.high)
        self.assertLess(low, high)
        self.assertLess(value_of(border.row, low) * value_of(border.row, high), 0)
        self.assertIs(type(Border(border.row, border.low, border.high)), Border)

    def check_square(self, end, number):
        """The end is the root of a number that is no square."""
        self.check_border(end)
        fine = narrowed(end, pair(TINY / 1000))
        self.check_border(fine)
        low, high = fraction(fine.low), fraction(fine.high)
        self.assertLessEqual(high - low, TINY / 1000)
        self.assertTrue(0 < low and low * low < number < high * high)


class BorderTest(BorderCase):
    def test_attributes(self):
        row = (-2, 0, 1)
        found = Border(row, 1, (4, 2))
        self.assertEqual((found.row, found.low, found.high), (row, (1, 1), (2, 1)))
        self.assertEqual((Border(row, (-6, 3), 0).low, Border(row, (-6, 3), 0).high), ((-2, 1), (0, 1)))
        for row in [(-4, 0, 2), product((-2, 0, 1), (-2, 0, 1), (-2, 0, 1)), (2, 0, -1), product((-2, 0, 1), (-3, 1))]:
            self.assertEqual(Border(row, 0, 2).row, row)

    def test_borders_that_stand_for_ratios(self):
        self.assertEqual(Border((-1, 2), 0, 1).row, (-1, 2))
        self.assertEqual(Border(product((-1, 2), (-1, 2), (-1, 2)), 0, 1).low, (0, 1))

    def test_values_that_are_no_rows(self):
        for value in NO_ROWS + [(), (5,)]:
            self.check_error(BadNumber, ("row", value), Border, value, "x", "y")

    def test_ends_that_are_none(self):
        for value in NO_RATIOS + [Border((-1, 2), 0, 1)]:
            self.check_error(BadNumber, ("low", value), Border, (-2, 0, 1), value, "y")
            self.check_error(BadNumber, ("high", value), Border, (-2, 0, 1), 1, value)
        self.check_error(BadNumber, ("high", 1), Border, (-2, 0, 1), 1, 1)
        self.check_error(BadNumber, ("high", (2, 2)), Border, (-2, 0, 1), 1, (2, 2))
        self.check_error(BadNumber, ("high", 0), Border, (-2, 0, 1), 1, 0)
        self.check_error(BadNumber, ("high", 0), Border, (1, 0, 1), 1, 0)

    def test_rows_without_exactly_one_root(self):
        for row, low, high in [
            ((1, 0, 1), 0, 2), ((-2, 0, 1), 2, 3), ((-2, 0, 1), -2, 2), ((-1, 1), 1, 2), ((-1, 1), 0, 1),
            (product((-1, 2), (-1, 2)), 0, 1), (product((-1, 3), (-2, 3), (-1, 2)), 0, 1), ((0, 1), 0, 1), ((0, 1), -1, 0),
            (product((0, 1), (-1, 2)), 0, 1), (product((-1, 1), (-1, 2)), 0, 1), (product((0, 1), (-1, 1), (-1, 2)), 0, 1),
            (product((0, 1), square(2)), 0, 2), (product((-2, 1), square(2)), 0, 2), (square(2), (3, 2), 2),
            (product((-1, 2), (-1, 2), (-1, 3)), 0, 1), (product((-2, 0, 1), (-3, 0, 1), (-3, 0, 1)), 1, 2),
        ]:
            self.check_error(BadNumber, ("row", row), Border, row, low, high)


class RootsTest(BorderCase):
    def test_roots_that_are_ratios(self):
        roots = [Fraction(k) for k in (-3, 0, 2)] + [Fraction(1, 2), Fraction(-7, 5), Fraction(10 ** 40 + 1, 10 ** 39)]
        row = product(*[linear(root) for root in roots], (1, 0, 1))
        self.assertEqual(roots_within(row, -100, 100), tuple(pair(root) for root in sorted(roots)))
        self.assertEqual(roots_within(row, -3, 2), tuple(pair(root) for root in sorted(roots) if -3 < root < 2))
        self.assertEqual(roots_within(row, (1, 2), (3, 2)), ())
        self.assertEqual(roots_within((5,), 0, 1), ())
        self.assertEqual(roots_within((0, 0, 0, 7), -1, 1), ((0, 1),))
        self.assertEqual(roots_within((0, 0, 0, 7), 0, 1), ())
        self.assertEqual(roots_within((1, 0, 1), -9, 9), ())

    def test_roots_that_are_no_ratios(self):
        low, high = roots_within((-2, 0, 1), -2, 2)
        self.check_square(high, 2)
        self.check_border(low)
        self.assertLessEqual(fraction(low.high), 0)
        found = roots_within(product(square(2), square(3), square(Fraction(1, 2)), (1, 1, 1)), 0, 10)
        self.assertEqual(len(found), 3)
        for end, number in zip(found, (Fraction(1, 2), 2, 3)):
            self.check_square(end, number)

    def test_roots_several_times(self):
        row = product((-1, 2), (-1, 2), (-1, 2), square(2), square(2), (-5, 1))
        found = roots_within(row, 0, 9)
        self.assertEqual((found[0], found[2], len(found)), ((1, 2), (5, 1), 3))
        self.check_square(found[1], 2)
        self.assertEqual(roots_within(product((-1, 3), (-1, 3)), 0, 1), ((1, 3),))

    def test_mixed_order(self):
        numbers = [Fraction(k, 7) for k in range(1, 12)]
        row = product(*[square(number) for number in numbers[::3]], *[linear(number) for number in numbers])
        found = roots_within(row, 0, 5)
        for one, other in zip(found, found[1:]):
            self.assertEqual(compared(one, other), -1)
        self.assertEqual([end for end in found if isinstance(end, tuple)], sorted([pair(number) for number in numbers], key=fraction))

    def test_roots_that_are_near(self):
        roots = [Fraction(1, 3), Fraction(1, 3) + TINY, Fraction(1, 2) - TINY, Fraction(1, 2)]
        self.assertEqual(roots_within(product(*map(linear, roots)), 0, 1), tuple(map(pair, roots)))
        self.assertEqual(roots_within(product(*map(linear, roots)), pair(roots[0]), pair(roots[3])), tuple(map(pair, roots[1:3])))
        found = roots_within(product(square(2), square(2 + TINY), linear(Fraction(7, 5))), 0, 2)
        self.assertEqual(found[0], (7, 5))
        self.assertEqual([compared(found[1], found[2]), compared(found[2], found[1])], [-1, 1])
        self.check_square(found[1], 2)
        self.check_square(found[2], 2 + TINY)

    def test_ends_are_left_out(self):
        row = product((-1, 1), (-2, 1), (-3, 1), square(2), square(3))
        root, other = roots_within(square(2), 0, 2)[0], roots_within(square(3), 0, 2)[0]
        self.assertEqual([len(roots_within(row, low, high)) for low, high in [(1, 2), (0, 3), (root, 3), (root, other), (1, root), (other, 4)]], [2, 4, 2, 0, 0, 2])
        (inner,) = roots_within(row, 1, other)
        self.check_square(inner, 2)
        (inner,) = roots_within(row, root, 2)
        self.check_square(inner, 3)
        near = roots_within(square(2 + TINY), 0, 2)[0]
        self.assertEqual(roots_within(linear(Fraction(3, 2)), root, near), ())
        (inner,) = roots_within(product(square(2), square(2 + TINY / 2), square(2 + TINY)), root, near)
        self.check_square(inner, 2 + TINY / 2)

    def test_ends_that_are_borders_of_ratios(self):
        half = Border(product((-1, 2), (1, 0, 1)), 0, (2, 3))
        self.assertEqual(roots_within(product((-1, 2), (-3, 4)), half, 1), ((3, 4),))
        self.assertEqual(roots_within(product((-1, 2), (-3, 4), (-1, 4)), 0, half), ((1, 4),))
        self.check_error(BadNumber, ("high", (1, 2)), roots_within, (0, 1), half, (1, 2))

    def test_many_roots(self):
        chance = random.Random(1)
        roots = sorted({Fraction(chance.randrange(-10 ** 6, 10 ** 6), chance.randrange(1, 10 ** 6)) for _ in range(39)})
        self.assertEqual(roots_within(product(*map(linear, roots)), -10 ** 7, 10 ** 7), tuple(map(pair, roots)))
        numbers = sorted(chance.sample(range(2, 400), 19))
        found = roots_within(product(*map(square, numbers)), 0, 30)
        self.assertEqual(len(found), 19)
        for end, number in zip(found, numbers):
            if round(number ** 0.5) ** 2 == number:
                self.assertEqual(end, (round(number ** 0.5), 1))
            else:
                self.check_square(end, number)

    def test_random_rows(self):
        chance = random.Random(7)
        for _ in range(400):
            size = chance.choice([2, 5, 100, 10 ** 12])
            rows = [
                tuple(chance.randrange(-size, size + 1) for _ in range(chance.randrange(1, 5))) + (chance.choice([1, 2, -3]),)
                for _ in range(chance.randrange(1, 4))
            ]
            row = product(*rows, chance.choice(rows))
            low, high = sorted(Fraction(chance.randrange(-99, 99), 7) for _ in range(2))
            if low < high and value_of(row, low) and value_of(row, high):
                found = roots_within(row, pair(low), pair(high))
                self.assertEqual(len(found), root_count(row, low, high))
                self.check_roots(row, found)

    def check_roots(self, row, found):
        for end in found:
            self.assertEqual(sign_at(row, end), 0)
            if isinstance(end, Border):
                self.check_border(end)
                self.assertEqual(root_count(end.row, fraction(end.low), fraction(end.high)), 1)
            else:
                self.check_ratio(end)
        for one, other in zip(found, found[1:]):
            self.assertEqual((compared(one, other), compared(other, one)), (-1, 1))

    def test_errors(self):
        for value in NO_ROWS + [()]:
            self.check_error(BadNumber, ("row", value), roots_within, value, "x", "y")
        for value in NO_RATIOS:
            self.check_error(BadNumber, ("low", value), roots_within, (0, 1), value, "y")
            self.check_error(BadNumber, ("high", value), roots_within, (0, 1), 0, value)
        root = roots_within((-2, 0, 1), 0, 2)[0]
        same = Border(product((-2, 0, 1), (-7, 1)), (7, 5), (3, 2))
        self.check_error(BadNumber, ("high", (0, 1)), roots_within, (0, 1), 0, (0, 1))
        self.check_error(BadNumber, ("high", (0, 1)), roots_within, (0, 1), (1, 9), (0, 1))
        self.check_error(BadNumber, ("high", same), roots_within, (0, 1), root, same)
        self.check_error(BadNumber, ("high", root), roots_within, (0, 1), 2, root)
        self.check_error(BadNumber, ("high", 1), roots_within, (0, 1), root, 1)


class EndsTest(BorderCase):
    def ends(self):
        """Ends in ascending order, each in several forms."""
        root = roots_within((-2, 0, 1), 0, 2)[0]
        near = roots_within(square(2 + TINY), 0, 2)[0]
        return [
            [-1, (-2, 2), Border((1, 1), -3, 0), Border((-1, 0, 1), -3, 0)],
            [0, (0, 5), Border((0, 1), -1, 1), Border((0, 3, 1), -1, (1, 7))],
            [(1, 2), (2, 4), Border((-1, 2), 0, 1), Border(product((-1, 2), (-1, 2), (-1, 2), (1, 1)), 0, 5)],
            [root, Border((-2, 0, 1), 1, 2), Border(product((-2, 0, 1), (-2, 0, 1), (-2, 0, 1), (-3, 1)), 0, 2), Border((4, 0, -2), 0, 100)],
            [near, Border(product(square(2 + TINY), (1, 2, 3)), 0, 100)],
            [Border((-3, 0, 1), 0, 2), Border((-9, 0, 0, 0, 1), 0, 2), Border(product((-3, 0, 1), (-2, 0, 1)), (3, 2), 2)],
            [2, Border((-2, 1), 0, 3), Border((-4, 0, 1), (1, 2), 3)],
        ]

    def test_compared(self):
        groups = self.ends()
        for i, one in enumerate(groups):
            for j, other in enumerate(groups):
                for a in one:
                    for b in other:
                        self.assertEqual(compared(a, b), sign_of(i - j))

    def test_compared_with_near_ratios(self):
        root = roots_within((-2, 0, 1), 0, 2)[0]
        fine = narrowed(root, pair(TINY))
        for one in (root, fine):
            self.assertEqual([compared(one, fine.low), compared(one, fine.high)], [1, -1])
            self.assertEqual([compared(fine.low, one), compared(fine.high, one)], [-1, 1])
        self.assertEqual(compared(pair(TINY), 0), 1)

    def test_narrowed(self):
        for group in self.ends():
            for end in group:
                for width in (1, (1, 100), pair(TINY), (2, 2), 10 ** 9):
                    found = narrowed(end, width)
                    if isinstance(group[0], Border):
                        self.check_border(found)
                        self.assertLessEqual(fraction(found.high) - fraction(found.low), fraction(width))
                    else:
                        self.check_ratio(found)
                    self.assertEqual(compared(found, end), 0)

    def test_narrowed_errors(self):
        for value in NO_RATIOS + [0, -1, (0, 3), (-1, 2), Border((-1, 2), 0, 1)]:
            self.check_error(BadNumber, ("width", value), narrowed, 1, value)
            self.check_error(BadNumber, ("width", value), narrowed, Border((-2, 0, 1), 1, 2), value)

    def test_sign_at(self):
        for group in self.ends():
            for end in group:
                self.assertEqual([sign_at((), end), sign_at((5,), end), sign_at((-5,), end)], [0, 1, -1])
                self.assertEqual(sign_at((0, 1), end), compared(end, 0))
                self.assertEqual(sign_at((-1, 2), end), compared(end, (1, 2)))
                self.assertEqual(sign_at(product((-1, 2), (-1, 2)), end), abs(compared(end, (1, 2))))
                self.assertEqual(sign_at((-2, 0, 1), end), compared(end, group_of_two()) if compared(end, 0) > 0 else -1)
                self.assertEqual(sign_at(product((-2, 0, 1), (-2, 0, 1)), end), abs(compared(end, group_of_two())))

    def test_sign_at_near_roots(self):
        root = group_of_two()
        self.assertEqual(sign_at(square(2 + TINY), root), -1)
        self.assertEqual(sign_at(square(2 - TINY), root), 1)
        self.assertEqual(sign_at(product(square(2), square(5)), root), 0)
        row = product(square(2), square(2))
        self.assertEqual(sign_at((row[0] * 10 ** 60 + 1,) + tuple(item * 10 ** 60 for item in row[1:]), root), 1)
        self.assertEqual(sign_at((row[0] * 10 ** 60 - 1,) + tuple(item * 10 ** 60 for item in row[1:]), root), -1)

    def check_between(self, low, high):
        found = between(low, high)
        self.check_ratio(found)
        self.assertEqual([compared(low, found), compared(found, high)], [-1, -1])

    def test_between(self):
        groups = self.ends()
        for i, one in enumerate(groups):
            for other in groups[i + 1:]:
                for a in one:
                    for b in other:
                        self.check_between(a, b)
        for low, high in [(0, pair(TINY)), ((-1, 3), pair(TINY - Fraction(1, 3))), (5, 6), (-6, -5), (-1, 1), ((1, 3), (1, 2))]:
            self.check_between(low, high)
        root = group_of_two()
        fine = narrowed(root, pair(TINY))
        self.check_between(fine.low, root)
        self.check_between(root, fine.high)

    def test_between_errors(self):
        groups = self.ends()
        for i, one in enumerate(groups):
            for other in groups[:i + 1]:
                for a in one:
                    for b in other:
                        self.check_error(BadNumber, ("high", b), between, a, b)
        for value in NO_RATIOS:
            self.check_error(BadNumber, ("high", value), between, 0, value)


def group_of_two():
    """The root of 2."""
    return roots_within((-2, 0, 1), 0, 2)[0]
