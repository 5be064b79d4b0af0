import random
import unittest
from fractions import Fraction

from everyfoe.bands import Beaten
from everyfoe.borders import Border, narrowed, sign_at
from everyfoe.courses import Course
from everyfoe.errors import NotPlain
from everyfoe.games import greatest_least
from everyfoe.holding import HeldZone, Touching, hold_zone
from everyfoe.polygons import polygon
from everyfoe.worlds import World, world_of
from everyfoe.zones import Zone
from tests.helper import CheckCase, fraction, pair
from tests.making import drawn_table
from tests.test_arcs import direction
from tests.test_games import plain_text, worths_in

TINY = Fraction(1, 10**30)
CROSS = world_of(
    ["n", "e", "s", "w"], ["x"], [[(0, 10)], [(10, 0)], [(0, -10)], [(-10, 0)]]
)


def room(world, zone, c):
    return fraction(greatest_least(world, c).worth) - fraction(zone.lowest(c))


def sizes(world, zone):
    """The greatest size of a pay or of a ratio of a corner."""
    found = [abs(fraction(part)) for corner in zone.corners for part in corner]
    for mine in world.mine:
        for foe in world.foe:
            found += [abs(fraction(part)) for part in world.pay(world.boards[0], mine, foe)]
    return max(found)


def least_room(world, zone, steps=40):
    """About the least room at directions whose sizes add up to 1."""
    found = []
    for quarter in range(4):
        for k in range(steps):
            found.append(room(world, zone, direction(quarter, Fraction(k, steps))))
    return min(found)


class HoldingTest(CheckCase):
    def check_held(self, held, world, zone):
        self.assertIsInstance(held, HeldZone)
        plan = held.plan
        many = len(plan.states)
        self.assertLessEqual(many, 999)
        self.assertEqual(plan.states, tuple([f"s{k + 1}" for k in range(many)]))
        self.assertEqual((plan.side, plan.start, plan.world), ("mine", (("s1", (1, 1)),), world))
        for items in (held.spots, held.points, held.mixtures):
            self.assertIs(type(items), tuple)
            self.assertEqual(len(items), many)
        board = world.boards[0]
        for k in range(many):
            mixture = [fraction(share) for share in held.mixtures[k]]
            self.assertEqual(sum(mixture), 1)
            self.assertGreaterEqual(min(mixture), 0)
            shares = [(move, share) for move, share in zip(world.mine, held.mixtures[k]) if share[0] > 0]
            self.assertEqual(plan.play(plan.states[k], board), tuple(shares))
            self.assertIn(held.points[k], zone)
            for foe in world.foe:
                expected = [0, 0]
                for share, mine in zip(mixture, world.mine):
                    pays = world.pay(board, mine, foe)
                    expected = [x + share * fraction(part) for x, part in zip(expected, pays)]
                for mine in world.mine:
                    after = plan.after(plan.states[k], board, mine, f"{mine}.{foe}")
                    for side in (0, 1):
                        spot = sum(fraction(part) * fraction(held.spots[int(name[1:]) - 1][side]) for name, part in after)
                        goal = fraction(held.spots[k][side]) - expected[side] + fraction(held.points[k][side])
                        self.assertEqual(spot, goal)

    def check_sums(self, held, world, zone):
        """Against all foes that know the state, the sums of the first rounds
        are above those of the zone but for how far the spots are apart."""
        board = world.boards[0]
        plan = held.plan
        for c in ((1, 0), (0, 1), (-1, 1), (-2, -3)):
            table = worths_in(world, c)
            reach = [c[0] * fraction(x) + c[1] * fraction(y) for x, y in held.spots]
            least = {name: 0 for name in plan.states}
            for rounds in range(1, 5):
                sums = {}
                for k, name in enumerate(plan.states):
                    found = []
                    for j, foe in enumerate(world.foe):
                        w = sum(fraction(share) * row[j] for share, row in zip(held.mixtures[k], table))
                        after = plan.after(name, board, world.mine[0], f"{world.mine[0]}.{foe}")
                        found.append(w + sum(fraction(part) * least[other] for other, part in after))
                    sums[name] = min(found)
                least = sums
                bound = rounds * fraction(zone.lowest(c)) - (max(reach) - min(reach))
                self.assertGreaterEqual(least["s1"], bound)

    def check_beaten(self, beaten, world, zone):
        self.assertIsInstance(beaten, Beaten)
        c = beaten.direction
        for part in c:
            self.check_ratio(part)
        self.check_ratio(beaten.gap)
        gap = fraction(beaten.gap)
        self.assertGreater(gap, 0)
        self.assertEqual(gap, -room(world, zone, c))
        self.assertEqual(sum(map(fraction, beaten.mixture)), 1)
        self.assertGreaterEqual(min(map(fraction, beaten.mixture)), 0)
        for row in worths_in(world, c):
            worth = sum(fraction(share) * w for share, w in zip(beaten.mixture, row))
            self.assertLessEqual(worth, fraction(zone.lowest(c)) - gap)

    def check_touching(self, touching, world, zone):
        self.assertIsInstance(touching, Touching)
        self.assertIn(touching.quarter, (0, 1, 2, 3))
        place = touching.place
        if isinstance(place, Border):
            near = narrowed(place, (1, 10**40))
            found = room(world, zone, direction(touching.quarter, fraction(near.low)))
            self.assertLess(abs(found), TINY)
        else:
            self.check_ratio(place)
            self.assertTrue(0 <= fraction(place) <= 1)
            self.assertEqual(room(world, zone, direction(touching.quarter, fraction(place))), 0)

    def test_drawn_zones_with_room(self):
        chance = random.Random(1)
        for k in range(30):
            world = drawn_table(chance, chance.randint(1, 4), chance.randint(1, 4), 1, k % 2)
            points = [(chance.randint(-9, 9), (chance.randint(-27, 27), 3)) for _ in range(chance.randint(1, 8))]
            zone = Zone(points)
            short = least_room(world, zone)
            for _ in range(9):
                lack = sizes(world, zone) * Fraction(11, 200) - short
                if lack > 0:
                    zone = zone.grown(pair(lack))
                    short = least_room(world, zone)
            held = hold_zone(world, zone)
            self.check_held(held, world, zone)
            self.check_sums(held, world, zone)
            if len(held.plan.states) <= 8:
                for corner in polygon(Course(held.plan)).corners:
                    self.assertIn(corner, zone)

    def test_drawn_zones(self):
        chance = random.Random(2)
        kinds = []
        for k in range(60):
            world = drawn_table(chance, chance.randint(1, 4), chance.randint(1, 4), 1, k % 2)
            zone = Zone([(chance.randint(-12, 12), chance.randint(-12, 12)) for _ in range(chance.randint(1, 6))])
            found = hold_zone(world, zone)
            kinds.append(type(found).__name__)
            if isinstance(found, HeldZone):
                self.check_held(found, world, zone)
                self.assertGreater(least_room(world, zone, 5), 0)
            elif isinstance(found, Beaten):
                self.check_beaten(found, world, zone)
            else:
                self.check_touching(found, world, zone)
        self.assertLess(5, kinds.count("HeldZone"))
        self.assertLess(5, kinds.count("Beaten"))

    def test_many_directions_are_needed(self):
        zone = Zone([(10, 2), (-10, 2), (10, -2), (-10, -2), (2, 10), (2, -10), (-2, 10), (-2, -10)])
        self.check_held(hold_zone(CROSS, zone), CROSS, zone)
        point = Zone([(0, 0)])
        self.check_held(hold_zone(CROSS, point), CROSS, point)
        off = Zone([((47, 10), (48, 10))])
        held = hold_zone(CROSS, off)
        self.assertIsInstance(held, HeldZone)
        self.check_held(held, CROSS, off)

    def test_little_room(self):
        """Less room than callers leave: more directions are needed."""
        world = world_of(["a", "b"], ["x", "y"], [[(0, 1), (1, 1)], [(1, 1), (0, 1)]])
        zone = Zone([(-3, 1), (3, 1), (0, -4)])
        for ratio in ((1, 10), (1, 300)):
            grown = zone.grown(ratio)
            self.check_held(hold_zone(world, grown), world, grown)
        world = world_of(["a"], ["x"], [[(7, 3)]])
        grown = Zone([(7, 3)]).grown((1, 1000))
        self.check_held(hold_zone(world, grown), world, grown)

    def test_one_pair_on_the_rim(self):
        world = world_of(["a"], ["x"], [[(1, 1)]])
        for zone in (Zone([(1, 1)]), Zone([(0, 0), (2, 0), (1, 1)]), Zone([(0, 0), (2, 2)])):
            self.check_touching(hold_zone(world, zone), world, zone)
        near = Zone([(0, 0), (2, 0), (1, pair(1 - TINY))])
        self.check_beaten(hold_zone(world, near), world, near)
        grown = Zone([(1, 1)]).grown((1, 3))
        self.check_held(hold_zone(world, grown), world, grown)
        all_zero = world_of(["a"], ["x"], [[(0, 0)]])
        zone = Zone([(0, 0)])
        self.check_touching(hold_zone(all_zero, zone), all_zero, zone)

    def test_pays_on_a_side(self):
        world = world_of(["a", "b"], ["x", "y"], [[(0, 1), (1, 1)], [(1, 1), (0, 1)]])
        zone = Zone([(-3, 1), (3, 1), (0, -4)])
        self.check_touching(hold_zone(world, zone), world, zone)
        for gap in (Fraction(1), TINY):
            low = pair(1 - gap)
            less = Zone([(-3, low), (3, low), (0, -4)])
            beaten = hold_zone(world, less)
            self.check_beaten(beaten, world, less)
        grown = zone.grown(1)
        self.check_held(hold_zone(world, grown), world, grown)

    def check_any(self, world, zone):
        found = hold_zone(world, zone)
        check = {HeldZone: self.check_held, Beaten: self.check_beaten, Touching: self.check_touching}
        check[type(found)](found, world, zone)
        return type(found)

    def test_one_move_and_pays_on_one_line(self):
        chance = random.Random(7)
        kinds = []
        for k in range(60):
            mine, foe = ((1, 4), (4, 1), (3, 3), (1, 1))[k % 4]
            way = (chance.randint(-3, 3), chance.randint(-3, 3))
            pays = []
            for _ in range(mine):
                steps = [chance.randint(-5, 5) for _ in range(foe)]
                pays.append([(way[0] * step + 1, (way[1] * step, 2)) for step in steps])
            world = world_of(list("abcd")[:mine], list("wxyz")[:foe], pays)
            zone = Zone([(chance.randint(-9, 9), chance.randint(-9, 9)) for _ in range(chance.randint(1, 4))])
            kinds.append(self.check_any(world, zone))
            kinds.append(self.check_any(world, Zone([pays[0][0], pays[-1][-1]])))
            kinds.append(self.check_any(world, Zone([point for row in pays for point in row])))
            kinds.append(self.check_any(world, Zone([point for row in pays for point in row]).grown(3)))
        for kind in (HeldZone, Beaten, Touching):
            self.assertIn(kind, kinds)

    def test_no_room_in_any_direction(self):
        """One move of mine, and the foe can go to all sides of the zone."""
        corners = ((3, 0), (0, 4), (-2, 0), (0, (-5, 3)))
        for chosen in (corners, corners[1:] + ((5, -7),), ((1, 3), (-2, -1), (1, -1))):
            world = world_of(["a"], list("wxyz")[: len(chosen)], [list(chosen)])
            for zone in (Zone([(0, 0)]), Zone([((1, 9), 0), (0, (1, 9))]), Zone([(0, 0), ((1, 5), 0), (0, (-1, 5))])):
                self.assertEqual(self.check_any(world, zone), Beaten)

    def test_a_place_that_is_no_ratio(self):
        """The rows of pays add up to 0, so the point 0 is held at each move;
        all of them are multiples of one at the root of 1 / 2 alone."""
        rows = [[(1, 1), (0, 2)], [(0, 1), (1, 1)], [(-1, -2), (-1, -3)]]
        world = world_of(["a", "b", "c"], ["x", "y"], rows)
        zone = Zone([(0, 0)])
        found = hold_zone(world, zone)
        self.check_touching(found, world, zone)
        self.assertIsInstance(found.place, Border)
        self.assertEqual(sign_at((-1, 0, 2), found.place), 0)
        grown = zone.grown(1)
        self.check_held(hold_zone(world, grown), world, grown)
        self.check_beaten(hold_zone(world, Zone([(9, 9), (8, 9)])), world, Zone([(9, 9), (8, 9)]))

    def test_fails_between_the_normals_of_its_sides(self):
        """The zone has the normals of the axes; the foe beats it aslant."""
        world = world_of(["a"], ["x", "y"], [[(0, 10), (10, 0)]])
        zone = Zone([(0, 0), (10, 0), (0, 10), (10, 10)])
        self.check_touching(hold_zone(world, zone), world, zone)
        world = world_of(["a", "b"], ["x"], [[(1, -1)], [(-1, 1)]])
        for gap in (Fraction(1, 2), TINY):
            part = pair(gap)
            square = Zone([(part, part), (part, 9), (9, part), (9, 9)])
            self.check_beaten(hold_zone(world, square), world, square)
            for c in ((1, 0), (0, 1), (-1, 0), (0, -1)):
                self.assertGreater(room(world, square, c), 0)

    def test_drawn_zones_that_touch_and_fail(self):
        chance = random.Random(3)
        for _ in range(25):
            world = drawn_table(chance, chance.randint(1, 3), chance.randint(1, 3), 1)
            c = direction(chance.randrange(4), Fraction(chance.randint(0, 6), 6))
            base = Zone([(chance.randint(-40, 40), chance.randint(-40, 40)) for _ in range(4)]).grown(30)
            off = room(world, base, c)
            moved = []
            way = [fraction(part) for part in c]
            size = way[0] ** 2 + way[1] ** 2
            for x, y in base.corners:
                moved.append((fraction(x) + off * way[0] / size, fraction(y) + off * way[1] / size))
            for gap in (0, 1, TINY):
                zone = Zone([(pair(x + gap * way[0] / size), pair(y + gap * way[1] / size)) for x, y in moved])
                self.assertEqual(room(world, zone, c), -gap)
                found = hold_zone(world, zone)
                if isinstance(found, Touching):
                    self.assertEqual(gap, 0)
                    self.check_touching(found, world, zone)
                else:
                    self.check_beaten(found, world, zone)

    def test_moves_in_another_order_scaled_moved_and_mirrored(self):
        chance = random.Random(4)
        for _ in range(12):
            world = drawn_table(chance, 3, 3, 1)
            points = [(chance.randint(-12, 12), chance.randint(-12, 12)) for _ in range(5)]
            kind = type(hold_zone(world, Zone(points)))
            table = [[[fraction(part) for part in world.pay("b", one, other)] for other in world.foe] for one in world.mine]
            changes = (
                lambda x, y: (x, y),
                lambda x, y: (x / 7, y / 7),
                lambda x, y: (x + 2, y - 3),
                lambda x, y: (-x, y),
                lambda x, y: (y, x),
            )
            for change in changes:
                pays = [[tuple(map(pair, change(*item))) for item in row[::-1]] for row in table[::-1]]
                zone = Zone([tuple(map(pair, change(Fraction(x), Fraction(y)))) for x, y in points])
                found = hold_zone(world_of(list("abc"), list("xyz"), pays), zone)
                self.assertIs(type(found), kind)

    def test_large_numbers(self):
        chance = random.Random(5)
        world = drawn_table(chance, 4, 4, 40, 12)
        zone = Zone([((chance.randint(-(10**40), 10**40), chance.randint(1, 10**60)) , 10**39) for _ in range(5)])
        found = hold_zone(world, zone)
        if isinstance(found, Beaten):
            self.check_beaten(found, world, zone)
        grown = zone.grown(10**41)
        self.check_held(hold_zone(world, grown), world, grown)

    def test_errors_in_order(self):
        zone = Zone([(0, 0)])
        self.check_error(NotPlain, ["boards"], hold_zone, World(plain_text(("b", "a"), "signal * * x:1\n")), zone)
        self.check_error(NotPlain, ["signals"], hold_zone, World(plain_text(signal="signal * * x:1\n")), zone)

    def test_objects_keep_what_they_are_given(self):
        spots = [(0, 0)]
        held = HeldZone("plan", spots, [(1, (2, 2))], [[1]])
        touching = Touching(5, (2, 2))
        spots.append(1)
        self.assertEqual((held.plan, held.spots), ("plan", ((0, 0),)))
        self.assertEqual((held.points, held.mixtures), (((1, (2, 2)),), ((1,),)))
        self.assertEqual((touching.quarter, touching.place), (5, (2, 2)))

    def test_equal_calls_tell_equal_answers(self):
        world = drawn_table(random.Random(6), 3, 3, 1)
        zone = Zone([(0, 0)]).grown(20)
        one = hold_zone(world, zone)
        other = hold_zone(world, zone)
        self.assertEqual((one.plan.text, one.spots, one.points), (other.plan.text, other.spots, other.points))


if __name__ == "__main__":
    unittest.main()
