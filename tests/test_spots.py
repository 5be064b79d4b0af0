"""The polygon between whose corners a plan that holds a zone goes about."""

import random
import unittest
from fractions import Fraction

from everyfoe.spots import cross, parts_of_way, rim_of, way_to
from everyfoe.wedges import Wedge
from tests.helper import CheckCase, pair


def drawn_wedges(chance, deepest):
    """Wedges all the way round, cut in halves here and there."""
    found = []

    def cut(wedge):
        if wedge.whole < deepest and chance.random() < 0.5:
            for half in wedge.halves():
                cut(half)
        else:
            found.append(wedge)

    for quarter in range(4):
        cut(Wedge(quarter, 0, 1))
    return found


class SpotsTest(CheckCase):
    def test_wedges(self):
        wedge = Wedge(1, 3, 8)
        self.assertEqual((wedge.first(), wedge.last()), ((-3, 5), (-4, 4)))
        low, high = wedge.halves()
        self.assertEqual((low.quarter, low.part, low.whole), (1, 6, 16))
        self.assertEqual((high.first(), high.last()), ((-7, 9), (-8, 8)))
        self.assertEqual((Wedge(3, 0, 1).first(), Wedge(3, 0, 1).last()), ((0, -1), (1, 0)))

    def test_sides_have_their_directions(self):
        chance = random.Random(1)
        for _ in range(60):
            wedges = drawn_wedges(chance, 32)
            rim = rim_of(wedges)
            self.assertEqual(len(rim), len(wedges))
            for k, wedge in enumerate(wedges):
                side = (rim[k][0] - rim[k - 1][0], rim[k][1] - rim[k - 1][1])
                normal = wedge.first()
                turned = (-normal[1], normal[0])
                self.assertEqual(cross(side, turned), 0)
                self.assertGreater(side[0] * turned[0] + side[1] * turned[1], 0)

    def test_ways_into_the_polygon(self):
        chance = random.Random(2)
        ends = 0
        for _ in range(40):
            wedges = drawn_wedges(chance, 8)
            rim = rim_of(wedges)
            k = chance.randrange(len(rim))
            goals = [chance.randrange(len(rim)) for _ in range(3)]
            weights = [Fraction(chance.randint(0, 3), chance.randint(1, 5)) for _ in goals]
            way = [sum(w * way_to(rim, k, j)[at] for w, j in zip(weights, goals)) for at in (0, 1)]
            parts = parts_of_way(rim, k, (pair(way[0]), pair(way[1])))
            self.assertLessEqual(len(parts), 2)
            total = [0, 0]
            for j, part, below in parts:
                self.assertNotEqual(j, k)
                self.assertGreater(Fraction(part, below), 0)
                total = [total[at] + Fraction(part, below) * way_to(rim, k, j)[at] for at in (0, 1)]
            self.assertEqual(total, way)
            ends += len(parts) == 1
            if len(parts) == 2:
                self.assertIn((parts[1][0] - parts[0][0]) % len(rim), (1, len(rim) - 1))
        for k in range(len(rim)):
            for j in range(len(rim)):
                if j != k:
                    way = tuple([pair(item) for item in way_to(rim, k, j)])
                    self.assertEqual([(at, Fraction(a, b)) for at, a, b in parts_of_way(rim, k, way)], [(j, 1)])
        self.assertEqual(parts_of_way(rim, 0, (pair(0), pair(0))), [])


if __name__ == "__main__":
    unittest.main()
