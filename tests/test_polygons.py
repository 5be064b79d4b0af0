import itertools
import random
import unittest
from fractions import Fraction
from math import gcd

from everyfoe.courses import Course
from everyfoe.errors import BadNumber, HasLetter
from everyfoe.means import mean_of
from everyfoe.plans import Plan
from everyfoe.polygons import Polygon, Side, polygon, polygon_for
from everyfoe.quotients import Quotient
from everyfoe.rulebooks import Rulebook
from everyfoe.worlds import World
from tests.helper import CheckCase, fraction, pair
from tests.making import drawn_plan, drawn_world
from tests.test_courses import ANGRY, TABLE, drawn_course
from tests.test_means import LETTERED, all_choices, many_choices, paper_fits, start_mean, turning_course, worth_in

SMALL = Fraction(1, 10 ** 30)
NO_POINTS = [None, 0, "11", (1,), (1, 2, 3), [1, 2], (1, None), (True, 1), ("1", 1), ((1, 0), 1), ((1, -2), 1), ([1, 2], 1), (1.0, 1), {}, (), (Quotient((1,)), 1)]


def hull(points):
    """The corners of Fractions, counterclockwise from the least one on."""
    points = sorted(set(points))
    if len(points) < 3:
        return points

    def half(part):
        out = []
        for p in part:
            while len(out) > 1 and crossed(out[-2], out[-1], p) <= 0:
                out.pop()
            out.append(p)
        return out

    return half(points)[:-1] + half(points[::-1])[:-1]


def crossed(a, b, c):
    return (b[0] - a[0]) * (c[1] - a[1]) - (b[1] - a[1]) * (c[0] - a[0])


def told(point):
    return tuple(pair(item) for item in point)


def normals(corners):
    """The normals of [50], in their order."""
    def least(x, y):
        scale = Fraction(x).denominator * Fraction(y).denominator
        x, y = int(x * scale), int(y * scale)
        return (x // gcd(x, y), y // gcd(x, y))

    if len(corners) == 1:
        return [(1, 0), (0, 1), (-1, 0), (0, -1)]
    ways = [(b[0] - a[0], b[1] - a[1]) for a, b in zip(corners, corners[1:] + corners[:1])]
    if len(corners) == 2:
        (x, y), _ = ways
        return [least(y, -x), least(x, y), least(-y, x), least(-x, -y)]
    return [least(y, -x) for x, y in ways]


class PolygonCase(CheckCase):
    def check_polygon(self, course, corners=None):
        found = polygon(course)
        self.assertIsInstance(found, Polygon)
        places = [tuple(fraction(item) for item in corner) for corner in found.corners]
        if corners is not None:
            self.assertEqual(places, corners)
        for value in (found.corners, found.choices, found.sides):
            self.assertIs(type(value), tuple)
        self.assertEqual(len(found.choices), len(places))
        for corner, choice in zip(found.corners, found.choices):
            self.assertIs(type(choice), tuple)
            self.assertEqual(told(start_mean(course, choice)), corner)
        self.assertEqual([side.normal for side in found.sides], normals(places))
        for side in found.sides:
            self.assertIsInstance(side, Side)
            self.assertEqual([type(item) for item in side.normal], [int, int])
            self.assertTrue(paper_fits(course, side.normal, side.gains, side.rests))
            most = max(worth_in(side.normal, corner) for corner in found.corners)
            self.assertEqual(sum(fraction(a) * fraction(b) for a, b in zip(course.start, side.gains)), most)
            self.assertEqual((type(side.gains), type(side.rests), len(side.rests)), (tuple, tuple, len(course.standings)))
        again = polygon(course)
        self.assertEqual((again.corners, again.choices), (found.corners, found.choices))
        self.assertEqual([vars(side) for side in again.sides], [vars(side) for side in found.sides])
        self.check_points(found, places)
        return found

    def check_points(self, found, places):
        """Points at the corners and sides, within, and just beyond."""
        middle = tuple(sum(place[side] for place in places) / len(places) for side in (0, 1))
        self.check_in(found, middle)
        for k, corner in enumerate(places):
            self.check_in(found, corner)
            after = places[(k + 1) % len(places)]
            self.check_in(found, tuple(a / 3 + b * 2 / 3 for a, b in zip(corner, after)))
            self.check_in(found, tuple(a + (b - a) * SMALL for a, b in zip(corner, middle)))
        reach = {normal: max(worth_in(normal, told(place)) for place in places) for normal in normals(places)}
        for normal, most in reach.items():
            for place in places:
                if worth_in(normal, told(place)) == most:
                    self.check_out(found, tuple(a + b * SMALL for a, b in zip(place, normal)))

    def check_in(self, found, point):
        self.assertIs(told(point) in found, True)
        weights = polygon_for(found, told(point))
        self.assertIs(type(weights), tuple)
        self.assertEqual(len(weights), len(found.corners))
        for weight in weights:
            self.check_ratio(weight)
            self.assertGreaterEqual(weight[0], 0)
        self.assertEqual(sum(fraction(weight) for weight in weights), 1)
        for side in (0, 1):
            self.assertEqual(sum(fraction(w) * fraction(corner[side]) for w, corner in zip(weights, found.corners)), point[side])
        self.assertEqual(polygon_for(found, told(point)), weights)

    def check_out(self, found, point):
        self.assertIs(told(point) in found, False)
        at = polygon_for(found, told(point))
        self.assertIs(type(at), int)
        normal = found.sides[at].normal
        self.assertGreater(worth_in(normal, told(point)), max(worth_in(normal, corner) for corner in found.corners))


class PolygonTest(PolygonCase):
    def test_against_all_choices(self):
        chance = random.Random(1)
        sizes = {}
        done = 0
        while done < 60:
            course = drawn_course(chance) if done % 3 else turning_course(chance, chance.choice(["mine", "foe"]))
            if many_choices(course) <= 64:
                done += 1
                corners = hull([start_mean(course, choice) for choice in all_choices(course)])
                self.check_polygon(course, corners)
                sizes[len(corners)] = sizes.get(len(corners), 0) + 1
        self.assertTrue({1, 2, 3, 4} <= set(sizes), sizes)
        self.assertGreater(max(sizes), 4)

    def test_larger_courses(self):
        chance = random.Random(2)
        for _ in range(3):
            world = drawn_world(chance, 3, 3, 1, pays=9)
            self.check_polygon(Course(drawn_plan(chance, world, states=7)))

    def test_points_and_stretches(self):
        world = World("mine c d\nfoe c d e\nboard b\npay c * 2/3 -1\npay d * 0 0\npay d d 6 2\npay d e 2 2/3\n")
        point = self.check_polygon(Course(Plan(world, "state s\nplay s b c:1\n")))
        self.assertEqual(point.corners, (((2, 3), (-1, 1)),))
        self.assertEqual(len(point.sides), 4)
        stretch = self.check_polygon(Course(Plan(world, "state s\nplay s b d:1\n")))
        self.assertEqual(stretch.corners, (((0, 1), (0, 1)), ((6, 1), (2, 1))))
        self.assertEqual([side.normal for side in stretch.sides], [(1, -3), (3, 1), (-1, 3), (-3, -1)])
        for pays, corners in (("1 5", [(1, 5), (1, 7)]), ("1 9", [(1, 7), (1, 9)]), ("2 7", [(1, 7), (2, 7)]), ("0 7", [(0, 7), (1, 7)]), ("0 9", [(0, 9), (1, 7)])):
            upright = World(f"mine c\nfoe c d\nboard b\npay c c 1 7\npay c d {pays}\n")
            self.check_polygon(Course(Plan(upright, "state s\nplay s b c:1\n")), [tuple(Fraction(a) for a in corner) for corner in corners])

    def test_points_between_corners(self):
        # Many choices have means on a side, none of them is a corner.
        world = World("mine c d\nfoe c d e\nboard b\npay c c 0 0\npay c d 2 0\npay c e 4 0\npay d c 0 4\npay d d 0 2\npay d e 4 4\n")
        course = Course(Plan(world, "state s t\nplay s b c:1\nplay t b d:1\ngo * * * *.c t:1\ngo * * * *.d s:1\n"))
        self.check_polygon(course, hull([start_mean(course, choice) for choice in all_choices(course)]))
        square = World("mine c\nfoe c d e z\nboard b\npay c c 0 0\npay c d 0 2\npay c e 2 2\npay c z 2 0\n")
        found = self.check_polygon(Course(Plan(square, "state s t\nplay * b c:1\ngo s * * * t:1\ngo t * * * s:1\n")))
        self.assertEqual(found.corners, (((0, 1), (0, 1)), ((2, 1), (0, 1)), ((2, 1), (2, 1)), ((0, 1), (2, 1))))
        self.assertEqual([side.normal for side in found.sides], [(0, -1), (1, 0), (0, 1), (-1, 0)])

    def test_moves_in_any_order(self):
        # Which point of the left side is found first hangs on the order of moves.
        corners = [(0, 0), (2, 0), (2, 2), (0, 2)]
        for order in itertools.permutations(corners):
            pays = "".join(f"pay c {move} {a} {b}\n" for move, (a, b) in zip("cdez", order))
            course = Course(Plan(World("mine c\nfoe c d e z\nboard b\n" + pays), "state s\nplay * b c:1\n"))
            found = polygon(course)
            self.assertEqual(found.corners, tuple(told(corner) for corner in corners))
            self.assertEqual(found.choices, tuple(("cdez"[order.index(corner)],) for corner in corners))

    def test_large_numbers(self):
        great = 10 ** 60
        world = World(f"mine c d\nfoe c d\nboard b\npay c c {great} 1/{great}\npay c d 0 {great}/7\npay d c 1/{great + 1} 0\npay d d -{great} -{great}\n")
        course = Course(Plan(world, "state s t\nplay s * c:1/3 d:2/3\nplay t * d:1/7 c:6/7\ngo s * * *.d t:1\n"))
        self.check_polygon(course, hull([start_mean(course, choice) for choice in all_choices(course)]))

    def test_rulebooks_and_letters(self):
        book = Rulebook(TABLE, "state r q\nbar q * c\ngo r * * c * q\ngo q * * * * r\n")
        course = Course(Plan(TABLE, ANGRY), book)
        self.check_polygon(course, hull([start_mean(course, choice) for choice in all_choices(course)]))
        for course in LETTERED:
            self.check_error(HasLetter, (), polygon, course)

    def test_wrong_points(self):
        found = polygon(Course(Plan(TABLE, ANGRY)))
        for value in NO_POINTS:
            self.assertIs(value in found, False)
            self.check_error(BadNumber, ("point", value), polygon_for, found, value)
        self.assertIs((3, (6, 2)) in found, True)
        self.assertIs(((6, 2), 3) in found, True)
        self.assertIs((1000, 1000) in found, False)
        self.assertEqual(sum(fraction(weight) for weight in polygon_for(found, (3, (6, 2)))), 1)

    def test_by_hand(self):
        side = Side((1, 0), [1], [(2, 4)])
        self.assertEqual((side.normal, side.gains, side.rests), ((1, 0), (1,), ((2, 4),)))
        corners = [(0, 0), (1, 0), (1, (2, 2)), (0, 1)]
        found = Polygon(corners, [["c"]] * 4, [side])
        self.assertEqual(found.corners, tuple(corners))
        self.assertEqual(found.choices, (("c",),) * 4)
        self.assertIs(found.sides[0], side)
        corners.pop()
        self.assertEqual(len(found.corners), 4)
        for point in ((0, 0), (1, 1), ((1, 2), (1, 3)), ((1, 2), 1)):
            self.assertIs(point in found, True)
        for point in ((2, 0), (0, -1), ((1, 2), (4, 3)), (-1, (1, 2))):
            self.assertIs(point in found, False)
        self.assertEqual(mean_of(Course(Plan(TABLE, ANGRY)), ("c", "d")), ((3, 1), (3, 1)))


if __name__ == "__main__":
    unittest.main()
