"""Spans that are guessed modulo a number: what is told of them is right."""

import random
import unittest
from fractions import Fraction

from everyfoe.guesses import Basis, Residues, basis_of, guessed, is_shown, ratio_from, residues_at
from everyfoe.moduli import next_modulus
from everyfoe.spans import Search, Span, led, reduced

NUMBER = next_modulus(1 << 127)
ONES = [((), [1, 1, 1, 1])]


def way_of(rows):
    """A way of integer rows."""
    return [[(k, item) for k, item in enumerate(row) if item] for row in rows]


STILL = way_of([[1, 0, 0, 0], [0, 1, 0, 0], [0, 0, 1, 0], [0, 0, 0, 1]])
SWAP = way_of([[0, 1, 0, 0], [1, 0, 0, 0], [0, 0, 0, 1], [0, 0, 1, 0]])
DOUBLED = way_of([[0, 2, 0, 0], [1, 0, 0, 0], [0, 0, 0, 1], [0, 0, 1, 0]])


class GuessesTest(unittest.TestCase):
    def test_ratios(self):
        for top, bottom in ((0, 1), (1, 1), (-1, 1), (1, 3), (-22, 7), (10**18, 10**18 + 9), (-(10**18), 3)):
            residue = top * pow(bottom, -1, NUMBER) % NUMBER
            found = ratio_from(residue, NUMBER)
            self.assertEqual(Fraction(*found), Fraction(top, bottom))
            self.assertGreater(found[1], 0)
        limit = next_modulus(1 << 127)
        rare = 3**75 * pow(5**40, -1, limit) % limit
        found = ratio_from(rare, limit)
        if found is not None:
            self.assertEqual((found[0] - rare * found[1]) % limit, 0)
            self.assertLess(max(abs(found[0]), found[1]), 1 << 64)

    def test_residues_are_reduced(self):
        residues = Residues(101)
        self.assertEqual(residues.rest_of([102, 3, 0]), [1, 3, 0])
        residues.put([2, 4, 6], 0, pow(2, -1, 101))
        self.assertEqual((residues.rows, residues.leads), ([[1, 2, 3]], [0]))
        self.assertEqual(residues.rest_of([5, 11, 15]), [0, 1, 0])
        residues.put([0, 1, 5], 1, 1)
        self.assertEqual((residues.rows, residues.leads), ([[1, 0, 94], [0, 1, 5]], [0, 1]))
        self.assertEqual(residues.rest_of([7, 9, 7 * 94 + 45]), [0, 0, 0])

    def test_spans_without_wrong_rows(self):
        start = [1, 0, -1, 0]
        for ways in ({0: [(SWAP, [("x", 0)])]}, {0: [(SWAP, [("x", 1)])], 1: [(STILL, [("y", 0), ("z", 1)])]}):
            found = guessed(0, start, ways, ONES)
            self.assertEqual(sorted(found), sorted(ways))
            search = Search(0, start, ways, ONES)
            self.assertIsNone(search.wrong_word())
            for place, rows in search.all_rows().items():
                self.assertEqual(len(rows), len(found[place]))
                span = Span()
                for row in [*found[place], *rows]:
                    span.takes(row)
                self.assertEqual(len(span.rows), len(rows))
                for row in found[place]:
                    self.assertEqual(sum(row), 0)

    def test_places_that_are_not_come_to(self):
        found = guessed(0, [1, 0, -1, 0], {0: [(SWAP, [("x", 0)])], 1: [(SWAP, [("x", 1)])]}, ONES)
        self.assertEqual((len(found[0]), found[1]), (2, []))

    def test_wrong_rows_are_not_guessed_away(self):
        ways = {0: [(DOUBLED, [("x", 0)])]}
        start = [0, 1, 0, -1]
        self.assertIsNone(guessed(0, start, ways, ONES))
        self.assertIsNone(residues_at(0, start, ways, ONES, NUMBER))
        self.assertEqual(Search(0, start, ways, ONES).wrong_word(), ("x", "x"))
        self.assertIsNone(guessed(0, [1, 0, 0, 0], {0: []}, ONES))
        self.assertEqual(Search(0, [1, 0, 0, 0], {0: []}, ONES).wrong_word(), ())

    def test_what_is_shown(self):
        ways = {0: [(SWAP, [("x", 0)])]}
        start = [1, 0, -1, 0]
        right = Basis([[1, 0, -1, 0], [0, 1, 0, -1]], [0, 1])
        self.assertTrue(is_shown(0, start, ways, ONES, {0: right}))
        short = Basis([[1, 0, -1, 0]], [0])
        self.assertFalse(is_shown(0, start, ways, ONES, {0: short}))
        self.assertFalse(is_shown(0, start, ways, ONES, {0: Basis([[0, 1, 0, -1]], [1])}))
        wrong = Basis([[1, 0, 0, 1], [0, 1, 0, -1], [0, 0, 1, 1]], [0, 1, 2])
        self.assertFalse(is_shown(0, start, ways, ONES, {0: wrong}))
        self.assertTrue(is_shown(0, start, ways, [], {0: wrong}))
        whole = Basis([[1, 0, 0, -1], [0, 1, 0, -1], [0, 0, 1, -1]], [0, 1, 2])
        self.assertTrue(is_shown(0, start, ways, ONES, {0: whole}))
        two = {0: [(SWAP, [("x", 0), ("y", 1)])], 1: []}
        self.assertFalse(is_shown(0, start, two, ONES, {0: right, 1: Basis([], [])}))
        self.assertFalse(is_shown(0, start, two, ONES, {0: right, 1: short}))
        self.assertTrue(is_shown(0, start, two, ONES, {0: right, 1: right}))
        self.assertTrue(is_shown(1, start, {0: [], 1: []}, ONES, {0: Basis([], []), 1: short}))

    def test_bases(self):
        basis = Basis([[2, 0, 3], [0, 5, 1]], [0, 1])
        self.assertTrue(basis.has([2, 5, 4]))
        self.assertTrue(basis.has([4, -5, 5]))
        self.assertTrue(basis.has([10, 2 * 5 + 0, 17]))
        self.assertFalse(basis.has([2, 5, 5]))
        self.assertFalse(basis.has([0, 0, 1]))
        self.assertTrue(basis.has([0, 0, 0]))
        self.assertTrue(Basis([], []).has([0, 0]))
        self.assertFalse(Basis([], []).has([0, 1]))

    def test_bases_of_residues(self):
        residues = Residues(NUMBER)
        third = pow(3, -1, NUMBER)
        residues.put([1, 0, third], 0, 1)
        residues.put([0, 1, NUMBER - 2 * third], 1, 1)
        basis = basis_of(residues)
        self.assertEqual((basis.rows, basis.leads), ([[3, 0, 1], [0, 3, -2]], [0, 1]))
        residues.rows[0][2] = pow(3, 77, NUMBER)
        long = basis_of(residues)
        if long is not None:
            self.assertNotEqual(long.rows[0][2], 3**77)

    def test_drawn_ways(self):
        """A joint row of two copies of a chain, the second one's places in
        another order: always alike, and guessed so at once."""
        chance = random.Random(1)
        for _ in range(20):
            many = chance.randint(1, 4)
            order = chance.sample(range(many), many)
            ways = []
            for letter in "xy":
                rows = [[chance.randint(0, 10**6) for _ in range(many)] for _ in range(many)]
                way = way_of(rows) + [None] * many
                for k in range(many):
                    way[many + order[k]] = [(many + order[j], item) for j, item in way[k]]
                ways.append((way, [(letter, 0)]))
            first = [chance.randint(0, 9) for _ in range(many)]
            first[0] = 1
            start = first + [0] * many
            for k in range(many):
                start[many + order[k]] = -first[k]
            marks = [((), [1] * (2 * many))]
            self.assertIsNotNone(guessed(0, start, {0: ways}, marks))
            self.assertIsNone(Search(0, start, {0: ways}, marks).wrong_word())

    def test_leading(self):
        self.assertEqual(led([2, 0, -4, 0], SWAP), [0, 1, 0, -2])
        self.assertEqual(led([0, 3, 1, 0], DOUBLED), [3, 0, 0, 1])
        self.assertEqual(reduced([0, 0]), [0, 0])
        self.assertEqual(reduced([6, -9]), [2, -3])


if __name__ == "__main__":
    unittest.main()
