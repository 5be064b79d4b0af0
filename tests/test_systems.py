import random
import unittest
from fractions import Fraction
from math import gcd

from everyfoe.exact import inverse
from everyfoe.moduli import first_modulus, next_modulus
from everyfoe.quotients import Quotient, polynomial
from everyfoe.rows import PRIME, are_apart, common, primitive, row_product, shared_multiple
from everyfoe.systems import answers, greatest_size, rows_of_answers
from tests.helper import CheckCase, fraction, pair
from tests.test_meetings import solve


def drawn_ratio(chance, size):
    return pair(Fraction(chance.randint(-size, size), chance.randint(1, size)))


def determinant(rows):
    """The determinant of a matrix of Fractions."""
    rows = [list(row) for row in rows]
    found = Fraction(1)
    for k in range(len(rows)):
        at = next((j for j in range(k, len(rows)) if rows[j][k]), None)
        if at is None:
            return Fraction(0)
        if at != k:
            rows[k], rows[at] = rows[at], rows[k]
            found = -found
        found *= rows[k][k]
        for j in range(k + 1, len(rows)):
            factor = rows[j][k] / rows[k][k]
            rows[j] = [a - factor * b for a, b in zip(rows[j], rows[k])]
    return found


class SystemTest(CheckCase):
    def test_ratios(self):
        chance = random.Random(1)
        for count in range(150):
            many = chance.randint(1, 6)
            sides = chance.randint(1, 3)
            size = chance.choice([2, 9, 10 ** 12, 10 ** 200])
            lines = [[drawn_ratio(chance, size) if chance.random() < 0.6 else (0, 1) for _ in range(many)] for _ in range(many)]
            right = [[drawn_ratio(chance, size) for _ in range(sides)] for _ in range(many)]
            rows = [[fraction(item) for item in line] for line in lines]
            if determinant(rows) != 0:
                found = answers([a + b for a, b in zip(lines, right)], many, False)
                for j in range(sides):
                    self.assertEqual([line[j] for line in found], [pair(x) for x in solve(rows, [fraction(line[j]) for line in right])])

    def test_polynomials(self):
        chance = random.Random(2)
        for count in range(60):
            many = chance.randint(1, 5)
            size = chance.choice([2, 9, 10 ** 30])
            most = chance.randint(0, 3)
            lines = [
                [polynomial([drawn_ratio(chance, size) for _ in range(chance.randint(0, most + 1))]) for _ in range(many)] for _ in range(many)
            ]
            right = [[Quotient((chance.randint(-3, 3), 1), (chance.randint(1, 5), 1, 1)), Quotient((2,), (7,))] for _ in range(many)]
            places = [Fraction(1, 7), Fraction(5, 3), Fraction(2), Fraction(3)]
            values = [[[fraction(item.at(pair(place))) for item in line] for line in lines] for place in places]
            if not any(determinant(rows) for rows in values):
                continue
            found = answers([a + b for a, b in zip(lines, right)], many, True)
            for place, rows in zip(places, values):
                if determinant(rows) != 0:
                    for j in (0, 1):
                        sides = [fraction(line[j].at(pair(place))) for line in right]
                        self.assertEqual([line[j].at(pair(place)) for line in found], [pair(x) for x in solve(rows, sides)])

    def test_places_without_an_answer(self):
        # The determinant is 0 at 2, 3, 4 and 5, where one would look first.
        row = (1,)
        for root in (2, 3, 4, 5):
            row = row_product(row, (-root, 1))
        bottom, found = rows_of_answers([[row, (1,)]], 1)
        self.assertEqual((Quotient(found[0][0], bottom)), Quotient((1,), row))
        bottom, found = rows_of_answers([[(), row, (1,)], [(3,), (1,), ()]], 2)
        self.assertEqual(Quotient(found[1][0], bottom), Quotient((1,), row))
        self.assertEqual(Quotient(found[0][0], bottom), Quotient((-1,), tuple(3 * item for item in row)))

    def test_lines_in_another_order_at_some_places(self):
        # At 2 and 5 the first line can not lead, at 3 the determinant is 0.
        for first in ((-2, 1), (10, -7, 1)):
            bottom, found = rows_of_answers([[first, (1,), (1,)], [(1,), (1,), (3,)]], 2)
            determinant_row = tuple(a - b for a, b in zip(first, (1,) + (0,) * (len(first) - 1)))
            self.assertEqual(Quotient(found[0][0], bottom), Quotient((-2,), determinant_row))
            self.assertEqual(Quotient(found[1][0], bottom), Quotient((3,)) - Quotient((-2,), determinant_row))
        bottom, found = rows_of_answers([[(-2, 1), (0, 1), (1,), (1,)], [(1,), (-3, 1), (2,), ()], [(2,), (1,), (-4, 1), (0, 5)]], 3)
        for line in [[(-2, 1), (0, 1), (1,), (1,)], [(1,), (-3, 1), (2,), ()], [(2,), (1,), (-4, 1), (0, 5)]]:
            total = Quotient(())
            for k in range(3):
                total = total + Quotient(line[k]) * Quotient(found[k][0], bottom)
            self.assertEqual(total, Quotient(line[3]))

    def test_large_systems(self):
        chance = random.Random(3)
        for size in (10 ** 60, 10 ** 500):
            rows = [[chance.randint(-size, size) for _ in range(7)] for _ in range(7)]
            lines = [[(item,) for item in row] + [(chance.randint(-size ** 2, size ** 2),)] for row in rows]
            bottom, found = rows_of_answers(lines, 7)
            exact = determinant([[Fraction(item) for item in row] for row in rows])
            self.assertEqual(abs(Fraction(bottom[0])), abs(exact))
            self.assertLessEqual(abs(bottom[0]), greatest_size(lines, 7))
            for k in range(7):
                self.assertLessEqual(abs(found[k][0][0]), greatest_size(lines, 7))
            for line in lines:
                self.assertEqual(sum(line[k][0] * found[k][0][0] for k in range(7)), line[7][0] * bottom[0])


class ModuliTest(CheckCase):
    def test_moduli(self):
        number = first_modulus(0)
        self.assertGreater(number, 2 ** 61)
        for limit in (2 ** 61, 10 ** 30, 2 ** 640, 10 ** 1000):
            number = first_modulus(limit)
            self.assertGreater(number, min(limit, 2 ** 640))
            for _ in range(20):
                self.assertTrue(all(number % k for k in range(2, 200)))
                after = next_modulus(number)
                self.assertGreater(after, number)
                number = after
        self.assertEqual(next_modulus(200), 211)
        self.assertEqual(next_modulus(210), 211)
        self.assertEqual(next_modulus(211), 223)

    def test_inverse(self):
        for modulus in (1, 2, 3, 10, 97, 360):
            for number in range(-5, 2 * modulus):
                found = inverse(number, modulus)
                if gcd(number, modulus) == 1:
                    self.assertEqual((number * found - 1) % modulus, 0)
                    self.assertIn(found, range(modulus))
                else:
                    self.assertIsNone(found)


class CommonTest(CheckCase):
    def test_rows_that_are_apart(self):
        chance = random.Random(4)
        prime = PRIME
        for _ in range(200):
            shared = [chance.randint(-9, 9) for _ in range(chance.randint(0, 2))] + [chance.choice([1, 2, prime])]
            one = row_product(tuple(shared), tuple(chance.randint(-9, 9) for _ in range(3)) + (chance.choice([1, 3, prime]),))
            other = row_product(tuple(shared), tuple(chance.randint(-9, 9) for _ in range(2)) + (chance.choice([1, 5, 2 * prime]),))
            if len(shared) > 1:
                self.assertIs(are_apart(one, other), False)
            if are_apart(one, other):
                self.assertEqual(common(one, other), (1,))
        self.assertIs(are_apart((1, 1), (2, 1)), True)
        self.assertIs(are_apart((1, 0, 1), (1, 1)), True)
        self.assertIs(are_apart((-1, 0, 1), (1, 1)), False)

    def test_shared_multiples(self):
        self.assertEqual(shared_multiple((2,), (3,)), (6,))
        self.assertEqual(shared_multiple((4,), (6,)), (12,))
        self.assertEqual(shared_multiple((2, 2), (2,)), (2, 2))
        self.assertEqual(shared_multiple((2, 2), (4,)), (4, 4))
        for one, other in (((1, 1), (1, 0, -1)), ((1, 0, -1), (1, 1))):
            self.assertEqual(primitive(shared_multiple(one, other)), (-1, 0, 1))
        self.assertEqual(len(shared_multiple((1, 1), (1, 2))), 3)


if __name__ == "__main__":
    unittest.main()
