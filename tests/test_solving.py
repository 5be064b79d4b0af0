import copy
import random
from fractions import Fraction

from everyfoe.errors import BadNumber, NoSolution
from everyfoe.solving import rank, solved
from tests.helper import CheckCase, fraction, pair

NO_RATIOS = [True, None, "1", 1.5, (1, 0), (1, -2), (1, 2, 3), [1, 2], (True, 1), Fraction(1, 2)]


def plain_rank(rows):
    """The rank, told by taking rows away one after the other."""
    rows = [[fraction(value) for value in row] for row in rows]
    done = 0
    for column in range(len(rows[0])):
        lead = next((k for k in range(done, len(rows)) if rows[k][column]), None)
        if lead is not None:
            rows[done], rows[lead] = rows[lead], rows[done]
            for k in range(done + 1, len(rows)):
                factor = rows[k][column] / rows[done][column]
                rows[k] = [a - factor * b for a, b in zip(rows[k], rows[done])]
            done += 1
    return done


class SolvedTest(CheckCase):
    def check_solved(self, rows, right):
        found = solved(rows, right)
        self.assertIs(type(found), tuple)
        self.assertEqual(len(found), len(rows[0]))
        for value in found:
            self.check_ratio(value)
        for row, goal in zip(rows, right):
            self.assertEqual(sum(fraction(a) * fraction(x) for a, x in zip(row, found)), fraction(goal))
        return found

    def test_one_unknown(self):
        self.assertEqual(solved([[2]], [3]), ((3, 2),))
        self.assertEqual(solved(((-4,),), (2,)), ((-1, 2),))
        self.assertEqual(solved([[2], [4], [0]], [1, 2, 0]), ((1, 2),))
        self.assertEqual(solved([[(2, 6)]], [(4, 3)]), ((4, 1),))

    def test_several_unknowns(self):
        self.assertEqual(solved([[1, 1], [1, -1]], [3, 1]), ((2, 1), (1, 1)))
        self.assertEqual(solved([[0, 1], [1, 0]], [3, 1]), ((1, 1), (3, 1)))
        self.assertEqual(solved([[0, 0, 2], [0, 3, 0], [5, 0, 0]], [1, 1, 1]), ((1, 5), (1, 3), (1, 2)))
        self.assertEqual(solved([[1, 0, 0, 1], [0, 1, 0, 1], [0, 0, 1, 1], [1, 1, 1, 0]], [0, 0, 0, 3])[3], (-1, 1))

    def test_no_solution(self):
        for rows, right in [
            ([[0]], [0]), ([[0]], [1]), ([[1], [1]], [1, 2]), ([[1, 1]], [1]), ([[1, 2], [2, 4]], [1, 2]),
            ([[1, 2], [2, 4]], [1, 3]), ([[1, 0], [0, 1], [1, 1]], [1, 1, 3]), ([[0, 0], [0, 1]], [0, 1]),
            ([[1, 2, 3], [4, 5, 6], [7, 8, 9]], [1, 1, 1]), ([[1, 2, 3], [4, 5, 6]], [1, 1]),
        ]:
            self.check_error(NoSolution, (), solved, rows, right)

    def test_more_rows_than_unknowns(self):
        self.assertEqual(solved([[1, 0], [0, 1], [1, 1], [0, 0]], [1, (1, 2), (3, 2), 0]), ((1, 1), (1, 2)))
        self.assertEqual(solved([[0, 0], [1, 1], [2, 2], [1, -1]], [0, 2, 4, 0]), ((1, 1), (1, 1)))

    def test_random_questions(self):
        chance = random.Random(1)
        for size in (2, 9, 10 ** 30):
            for _ in range(300):
                many = chance.randrange(1, 5)
                rows = [
                    [chance.choice([0, chance.randrange(-size, size), (chance.randrange(-size, size), size)]) for _ in range(many)]
                    for _ in range(chance.randrange(1, 6))
                ]
                x = [Fraction(chance.randrange(-size, size), chance.randrange(1, size)) for _ in range(many)]
                right = [pair(sum(fraction(a) * b for a, b in zip(row, x))) for row in rows]
                if plain_rank(rows) == many:
                    self.assertEqual(self.check_solved(rows, right), tuple(pair(value) for value in x))
                else:
                    self.check_error(NoSolution, (), solved, rows, right)
                self.assertEqual(rank(rows), plain_rank(rows))

    def test_many_unknowns(self):
        chance = random.Random(2)
        rows = [[chance.randrange(-9, 10) for _ in range(12)] for _ in range(12)]
        self.check_solved(rows, list(range(12)))
        rows = [[(1, i + j + 1) for j in range(12)] for i in range(12)]
        self.check_solved(rows, [1] * 12)

    def test_first_value_that_is_no_ratio(self):
        for value in NO_RATIOS:
            self.check_error(BadNumber, ("entry", value), solved, [[1, value], [3, "x"]], ["y", 1])
            self.check_error(BadNumber, ("entry", value), solved, [[1, 2], [value, "x"]], ["y", 1])
            self.check_error(BadNumber, ("entry", value), solved, [[1, 2], [1, 2]], [0, value])
            self.check_error(BadNumber, ("entry", value), rank, [[1, 2], [3, value], ["x", 1]])

    def test_what_is_passed_stays(self):
        rows = [[(2, 4), 0], [0, 3], [0, 0]]
        right = [1, 2, 0]
        before = copy.deepcopy((rows, right))
        self.assertEqual(solved(rows, right), solved(tuple(map(tuple, rows)), tuple(right)))
        rank(rows)
        self.assertEqual((rows, right), before)


class RankTest(CheckCase):
    def test_ranks(self):
        for rows, number in [
            ([[0]], 0), ([[0, 0], [0, 0]], 0), ([[3]], 1), ([[1, 2], [2, 4]], 1), ([[1, 2], [2, 5]], 2),
            ([[0, 0, 1], [0, 0, 2], [0, 1, 0]], 2), ([[1], [2], [3]], 1), ([[1, 2, 3]], 1),
            ([[(1, 2), (1, 3)], [(3, 6), (2, 6)]], 1), ([[10 ** 30, 1], [10 ** 30 + 1, 1]], 2),
        ]:
            self.assertEqual(rank(rows), number)
            self.assertIs(type(rank(rows)), int)
