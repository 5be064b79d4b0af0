import copy
import random
from fractions import Fraction

from everyfoe.errors import BadNumber
from everyfoe.linear import Endless, Nothing, Reached, greatest, mixture_for
from tests.helper import CheckCase, fraction, pair

NO_RATIOS = [True, None, "1", 1.5, (1, 0), (1, -2), (1, 2, 3), [1, 2], (True, 1)]


def summed(one, other):
    return sum((fraction(a) * fraction(b) for a, b in zip(one, other)), Fraction(0))


class GreatestTest(CheckCase):
    def check_tuple(self, found, many):
        self.assertIs(type(found), tuple)
        self.assertEqual(len(found), many)
        for value in found:
            self.check_ratio(value)

    def check_answer(self, rows, right, worth):
        """The answer to a question, checked by addition."""
        before = copy.deepcopy((rows, right, worth))
        answer = greatest(rows, right, worth)
        self.assertEqual((rows, right, worth), before)
        self.assertIn(type(answer), (Reached, Endless, Nothing))
        if not isinstance(answer, Nothing):
            self.check_tuple(answer.spots, len(worth))
            self.assertTrue(all(fraction(value) >= 0 for value in answer.spots))
            for row, goal in zip(rows, right):
                self.assertEqual(summed(row, answer.spots), fraction(goal))
        if isinstance(answer, Endless):
            self.check_tuple(answer.run, len(worth))
            self.assertTrue(all(fraction(value) >= 0 for value in answer.run))
            self.assertTrue(all(summed(row, answer.run) == 0 for row in rows))
            self.assertGreater(summed(worth, answer.run), 0)
            return answer
        self.check_tuple(answer.weights, len(rows))
        sums = [summed(answer.weights, [row[k] for row in rows]) for k in range(len(worth))]
        if isinstance(answer, Nothing):
            self.assertTrue(all(value >= 0 for value in sums))
            self.assertLess(summed(answer.weights, right), 0)
            return answer
        self.check_ratio(answer.number)
        self.assertEqual(fraction(answer.number), summed(worth, answer.spots))
        self.assertEqual(fraction(answer.number), summed(answer.weights, right))
        self.assertTrue(all(value >= fraction(item) for value, item in zip(sums, worth)))
        return answer

    def check_reached(self, rows, right, worth, number):
        answer = self.check_answer(rows, right, worth)
        self.assertIs(type(answer), Reached)
        self.assertEqual(answer.number, number)
        return answer

    def test_reached(self):
        answer = self.check_reached([[1, 1]], [1], [2, 3], (3, 1))
        self.assertEqual((answer.spots, answer.weights), (((0, 1), (1, 1)), ((3, 1),)))
        self.check_reached([[1, 2, 1, 0], [3, 1, 0, 1]], [4, 6], [3, 2, 0, 0], (36, 5))
        self.check_reached([[(1, 2), (1, 3)]], [(5, 6)], [(1, 7), (1, 5)], (1, 2))
        self.check_reached([[-1, -1]], [-4], [1, 2], (8, 1))
        self.check_reached([[1, 1]], [0], [1, 2], (0, 1))
        self.check_reached([[1, 1]], [5], [-1, -2], (-5, 1))
        self.check_reached([[1, 1]], [5], [0, 0], (0, 1))

    def test_endless(self):
        answer = self.check_answer([[1, -1]], [1], [1, 0])
        self.assertIs(type(answer), Endless)
        self.assertIs(type(self.check_answer([[0, 0]], [0], [-1, 1])), Endless)
        self.assertIs(type(self.check_answer([[1, -1, 0], [0, 1, -1]], [0, 0], [1, 1, -1])), Endless)

    def test_nothing(self):
        for rows, right in [
            ([[1, 1]], [-1]), ([[0, 0]], [1]), ([[0, 0]], [-1]), ([[1, 1], [1, 1]], [1, 2]), ([[1, 2], [2, 4]], [1, 3]),
            ([[-1, 0], [0, 1]], [1, 1]), ([[1, 1], [1, -1]], [1, 2]),
        ]:
            self.assertIs(type(self.check_answer(rows, right, [1, 1])), Nothing)

    def test_no_row(self):
        answer = self.check_reached([], [], [0, -1, 0], (0, 1))
        self.assertEqual((answer.spots, answer.weights), (((0, 1),) * 3, ()))
        self.assertIs(type(self.check_answer([], [], [0, (1, 9)])), Endless)
        self.assertIs(type(self.check_answer((), (), (-1,))), Reached)

    def test_rows_that_hang_together(self):
        self.check_reached([[1, 1], [2, 2], [1, 1]], [1, 2, 1], [1, 3], (3, 1))
        self.check_reached([[1, 0], [0, 1], [1, 1], [0, 0]], [1, 2, 3, 0], [1, 1], (3, 1))
        self.check_reached([[1, 1], [-1, -1]], [1, -1], [1, 3], (3, 1))
        self.assertIs(type(self.check_answer([[1, -1], [-2, 2]], [1, -2], [1, 1])), Endless)
        self.assertIs(type(self.check_answer([[1, -1], [-2, 2]], [1, -3], [1, 1])), Nothing)
        self.check_reached([[0, 1], [0, 1]], [0, 0], [-1, 5], (0, 1))

    def test_it_ends_where_many_rows_are_tight(self):
        rows = [
            [(1, 4), -60, (-1, 25), 9, 1, 0, 0],
            [(1, 2), -90, (-1, 50), 3, 0, 1, 0],
            [0, 0, 1, 0, 0, 0, 1],
        ]
        self.check_reached(rows, [0, 0, 1], [(3, 4), -150, (1, 50), -6, 0, 0, 0], (1, 20))
        rows = [[(1, 2), (-11, 2), (-5, 2), 9, 1, 0, 0], [(1, 2), (-3, 2), (-1, 2), 1, 0, 1, 0], [1, 0, 0, 0, 0, 0, 1]]
        self.check_reached(rows, [0, 0, 1], [10, -57, -9, -24, 0, 0, 0], (1, 1))

    def test_random_questions(self):
        chance = random.Random(3)
        kinds = {}
        for size in (1, 2, 7, 10 ** 30):
            for _ in range(500):
                many = chance.randrange(1, 7)

                def item():
                    number = chance.randrange(-size, size + 1)
                    return chance.choice([number, 0, (number, chance.randrange(1, size + 2))])

                rows = [[item() for _ in range(many)] for _ in range(chance.randrange(6))]
                if len(rows) > 2:
                    rows[-1] = [pair(fraction(a) - 2 * fraction(b)) for a, b in zip(rows[0], rows[1])]
                spots = [chance.choice([0, 0, 1, 2]) for _ in range(many)]
                right = [pair(summed(row, spots)) for row in rows]
                if chance.random() < 0.4:
                    right = [item() for _ in rows]
                answer = self.check_answer(rows, right, [item() for _ in range(many)])
                kinds[type(answer)] = kinds.get(type(answer), 0) + 1
        self.assertTrue(all(many > 100 for many in kinds.values()) and len(kinds) == 3)

    def test_twelve_rows_and_forty_unknowns(self):
        chance = random.Random(4)
        for size in (1, 9):
            rows = [[chance.randrange(-size, size + 1) for _ in range(40)] for _ in range(12)]
            spots = [chance.choice([0, 0, 1]) for _ in range(40)]
            right = [pair(summed(row, spots)) for row in rows]
            self.check_answer(rows, right, [chance.randrange(-size, 1) for _ in range(40)])
            self.check_answer(rows, [0] * 12, [chance.randrange(-size, size + 1) for _ in range(40)])
            self.check_answer(rows, [1] * 12, [1] * 40)

    def test_first_value_that_is_no_ratio(self):
        for value in NO_RATIOS:
            self.check_error(BadNumber, ("entry", value), greatest, [[1, value], ["x", 1]], ["y", 1], ["z", 1])
            self.check_error(BadNumber, ("entry", value), greatest, [[1, 2], [value, 1]], ["y", 1], ["z", 1])
            self.check_error(BadNumber, ("entry", value), greatest, [[1, 2], [1, 1]], [1, value], ["z", 1])
            self.check_error(BadNumber, ("entry", value), greatest, [[1, 2], [1, 1]], [1, 1], [1, value])
            self.check_error(BadNumber, ("entry", value), greatest, [], [], [value])

    def test_objects_of_the_answers(self):
        number, spots, weights = (1, 2), ((1, 1),), ((2, 1),)
        found = Reached(number, spots, weights)
        self.assertEqual((found.number, found.spots, found.weights), (number, spots, weights))
        found = Endless(spots, weights)
        self.assertEqual((found.spots, found.run), (spots, weights))
        given = [(1, 1)]
        found = Nothing(given)
        given.append((2, 1))
        self.assertEqual(found.weights, ((1, 1),))


class MixtureTest(CheckCase):
    def check_mixture(self, points, point):
        found = mixture_for(points, point)
        self.assertIs(type(found), tuple)
        self.assertEqual(len(found), len(points))
        for value in found:
            self.check_ratio(value)
            self.assertGreaterEqual(fraction(value), 0)
        self.assertEqual(sum(fraction(value) for value in found), 1)
        for k in range(len(point)):
            self.assertEqual(summed(found, [each[k] for each in points]), fraction(point[k]))
        self.assertEqual(mixture_for(points, point), found)
        return found

    def test_points_of_the_hull(self):
        square = [(0, 0), (1, 0), (1, 1), (0, 1)]
        for point in [(0, 0), (1, 1), ((1, 2), (1, 2)), ((1, 2), 0), ((1, 3), (2, 7)), ((2, 4), 1)]:
            self.check_mixture(square, point)
            self.check_mixture(tuple(square + [(0, 0), ((1, 2), (1, 2)), ((1, 2), 0)]), point)
        self.assertEqual(self.check_mixture([(3,)], (3,)), ((1, 1),))
        self.assertEqual(self.check_mixture([(1, 2), (3, 4)], (1, 2)), ((1, 1), (0, 1)))
        self.check_mixture([(1,), (1,), (1,)], (1,))

    def test_points_beyond_the_hull(self):
        tiny = (1, 10 ** 30)
        square = [(0, 0), (1, 0), (1, 1), (0, 1)]
        for point in [(2, 0), (-1, 0), (pair(1 + fraction(tiny)), 0), ((1, 2), (-1, 10 ** 30)), ((-1, 10 ** 30), (1, 2))]:
            self.assertIsNone(mixture_for(square, point))
        self.assertIsNone(mixture_for([(3,)], (4,)))
        self.assertIsNone(mixture_for([(0, 0), (1, 1)], ((1, 2), pair(Fraction(1, 2) + fraction(tiny)))))
        self.check_mixture(square, (pair(1 - fraction(tiny)), tiny))

    def test_random_points(self):
        chance = random.Random(5)
        for _ in range(200):
            size = chance.randrange(1, 5)
            points = [tuple(chance.randrange(-5, 6) for _ in range(size)) for _ in range(chance.randrange(1, 7))]
            weights = [chance.randrange(4) for _ in points]
            total = sum(weights) or 1
            weights[0] += 0 if sum(weights) else 1
            point = tuple(pair(Fraction(sum(w * p[k] for w, p in zip(weights, points)), total)) for k in range(size))
            self.check_mixture(points, point)

    def test_first_value_that_is_no_ratio(self):
        for value in NO_RATIOS:
            self.check_error(BadNumber, ("entry", value), mixture_for, [(1, value), ("x", 1)], ("y", 1))
            self.check_error(BadNumber, ("entry", value), mixture_for, [(1, 2), (value, 1)], ("y", 1))
            self.check_error(BadNumber, ("entry", value), mixture_for, [(1, 2)], (1, value))
