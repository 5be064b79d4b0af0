import random
import unittest
from fractions import Fraction

from everyfoe.errors import BadNumber
from everyfoe.linear import mixture_for
from everyfoe.zones import Zone
from tests.helper import CheckCase, fraction, pair


def point_of(x, y):
    return (pair(x), pair(y))


class ZonesTest(CheckCase):
    def check_corners(self, points):
        """The corners are those of the definition, in their order."""
        zone = Zone(points)
        places = sorted({(fraction(x), fraction(y)) for x, y in points})
        expected = []
        for place in places:
            others = [point_of(*other) for other in places if other != place]
            if not others or mixture_for(others, point_of(*place)) is None:
                expected.append(place)
        found = [(fraction(x), fraction(y)) for x, y in zone.corners]
        self.assertIs(type(zone.corners), tuple)
        for x, y in zone.corners:
            self.check_ratio(x)
            self.check_ratio(y)
        self.assertEqual(sorted(found), expected)
        self.assertEqual(found[0], expected[0])
        for k in range(len(found) if len(found) > 2 else 0):
            a, b, c = found[k - 2], found[k - 1], found[k]
            self.assertGreater((b[0] - a[0]) * (c[1] - b[1]), (b[1] - a[1]) * (c[0] - b[0]))
        return zone

    def drawn_points(self, chance, many, size, bottom):
        found = []
        for _ in range(many):
            found.append(tuple([(chance.randint(-size, size), chance.randint(1, bottom)) for _ in range(2)]))
        return found

    def test_drawn_zones(self):
        chance = random.Random(1)
        for k in range(150):
            points = self.drawn_points(chance, chance.randint(1, 12), (1, 3, 10**20)[k % 3], (1, 2, 10**20)[k // 3 % 3])
            zone = self.check_corners(points + points[: chance.randint(0, 3)])
            for point in points:
                self.assertIn(point, zone)

    def test_points_on_a_line(self):
        chance = random.Random(2)
        for _ in range(40):
            x, y = chance.randint(-3, 3), chance.randint(-3, 3)
            many = chance.randint(1, 12)
            points = [(x * t + 1, (y * t, 7)) for t in [chance.randint(-4, 4) for _ in range(many)]]
            zone = self.check_corners(points)
            self.assertLessEqual(len(zone.corners), 2)

    def test_known_zones(self):
        self.assertEqual(Zone([(1, (2, 4))]).corners, (((1, 1), (1, 2)),))
        stretch = Zone([(1, 0), (0, 5), (1, 0)])
        self.assertEqual(stretch.corners, (((0, 1), (5, 1)), ((1, 1), (0, 1))))
        upright = Zone(((0, 3), (0, -1), (0, 0)))
        self.assertEqual(upright.corners, (((0, 1), (-1, 1)), ((0, 1), (3, 1))))
        square = Zone([(1, 1), (0, 0), (1, 0), (0, 1), ((1, 2), 0)])
        expected = tuple([((x, 1), (y, 1)) for x, y in ((0, 0), (1, 0), (1, 1), (0, 1))])
        self.assertEqual(square.corners, expected)

    def test_lowest(self):
        zone = Zone([(0, 0), (4, 1), (1, 3)])
        self.assertEqual(zone.lowest((1, 0)), (0, 1))
        self.assertEqual(zone.lowest((-1, 0)), (-4, 1))
        self.assertEqual(zone.lowest(((-2, 4), (-1, 3))), (-7, 3))
        chance = random.Random(3)
        for _ in range(30):
            points = self.drawn_points(chance, 6, 9, 3)
            c = (chance.randint(1, 9), chance.randint(-9, 9))
            least = min(c[0] * fraction(x) + c[1] * fraction(y) for x, y in points)
            self.assertEqual(Zone(points).lowest(c), pair(least))
        for c in ((0, 0), (1,), [1, 0], None, (True, 0), ((1, 0), 1)):
            self.check_error(BadNumber, ["direction", c], zone.lowest, c)

    def test_points_in_zones(self):
        tiny = Fraction(1, 10**20)
        zone = Zone([(0, 0), (4, 0), (0, 4)])
        self.assertIn((0, 0), zone)
        self.assertIn((2, 2), zone)
        self.assertIn(((6, 3), (1, 1)), zone)
        self.assertNotIn((2, pair(2 + tiny)), zone)
        self.assertNotIn((pair(-tiny), 1), zone)
        stretch = Zone([(0, 0), (3, 6)])
        self.assertIn((1, 2), stretch)
        self.assertNotIn((1, pair(2 + tiny)), stretch)
        self.assertNotIn((1, pair(2 - tiny)), stretch)
        self.assertNotIn((pair(-tiny), pair(-2 * tiny)), stretch)
        self.assertNotIn((pair(3 + tiny), pair(6 + 2 * tiny)), stretch)
        point = Zone([(1, 1)])
        self.assertIn(((3, 3), 1), point)
        self.assertNotIn((pair(1 + tiny), 1), point)

    def test_what_is_no_point_is_in_no_zone(self):
        zone = Zone([(-9, -9), (9, -9), (0, 9)])
        for value in (None, 0, "ab", [0, 0], (0,), (0, 0, 0), (0, 0.0), (False, 0), ((0, 0), 0), (0, (0, -1)), {}):
            self.assertFalse(value in zone)

    def test_drawn_points_in_zones(self):
        chance = random.Random(4)
        for _ in range(60):
            zone = Zone(self.drawn_points(chance, chance.randint(1, 6), 3, 2))
            for point in self.drawn_points(chance, 6, 3, 2):
                self.assertEqual(point in zone, mixture_for(zone.corners, point) is not None)

    def test_grown(self):
        point = Zone([(1, 2)]).grown((1, 2))
        self.assertEqual(point, Zone([((1, 2), (3, 2)), ((3, 2), (3, 2)), ((3, 2), (5, 2)), ((1, 2), (5, 2))]))
        zone = Zone([(0, 0), (4, 1), (1, 3)])
        self.assertEqual(zone.grown(0), zone)
        self.assertEqual(len(zone.grown(1).corners), 7)
        for c in ((1, 0), (0, 1), (1, 1), (-2, 1), (3, -5), (-1, -1)):
            for ratio in (1, (2, 6), (1, 10**20)):
                reach = fraction(zone.lowest(c)) - fraction(ratio) * (abs(c[0]) + abs(c[1]))
                self.assertEqual(zone.grown(ratio).lowest(c), pair(reach))
        for ratio in (-1, (-1, 5), None, "1", (1, 0), True, 0.5, [1, 2]):
            self.check_error(BadNumber, ["grown", ratio], zone.grown, ratio)

    def test_equal_zones(self):
        zone = Zone([(0, 0), (4, 0), (0, 4)])
        self.assertTrue(zone == Zone([((0, 5), 4), (1, 1), (4, (0, 3)), (0, 0)]))
        self.assertFalse(zone == Zone([(0, 0), (4, 0), (0, 5)]))
        self.assertFalse(zone == zone.corners)
        self.assertFalse(zone == Zone([(0, 0)]))

    def test_wrong_points(self):
        for points in (None, [], (), 3, "ab", {}, [[0, 0]], [(0, 0), (1,)], [(0, 0), (1, 2, 3)], [(0, 0.5)],
                       [(0, True)], [(0, (1, 0))], (0, 0), {(0, 0): 1}):
            self.check_error(BadNumber, ["points", points], Zone, points)

    def test_the_list_stays(self):
        points = [(1, 1), (0, 0), (2, 2)]
        zone = Zone(points)
        self.assertEqual(points, [(1, 1), (0, 0), (2, 2)])
        points[1] = (5, 5)
        self.assertEqual(zone.corners, (((0, 1), (0, 1)), ((2, 1), (2, 1))))


if __name__ == "__main__":
    unittest.main()
