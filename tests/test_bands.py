import random
import unittest
from fractions import Fraction

from everyfoe.bands import Beaten, Floor, Held, hold_band
from everyfoe.courses import Course
from everyfoe.errors import BadNumber, NotPlain
from everyfoe.games import greatest_least, least_greatest
from everyfoe.polygons import polygon
from everyfoe.worlds import World, world_of
from tests.helper import CheckCase, fraction, pair
from tests.making import drawn_ratio, drawn_table
from tests.test_games import PENNIES, plain_text, worths_in

TINY = Fraction(1, 10**30)


def column(mixture, table, j):
    return sum(fraction(share) * row[j] for share, row in zip(mixture, table))


class BandsTest(CheckCase):
    def check_mixture(self, mixture, many):
        self.assertIs(type(mixture), tuple)
        self.assertEqual(len(mixture), many)
        self.assertEqual(sum(map(fraction, mixture)), 1)
        for share in mixture:
            self.check_ratio(share)
            self.assertGreaterEqual(share[0], 0)

    def check_held(self, held, world, c, low, high):
        table = worths_in(world, c)
        self.assertIsInstance(held, Held)
        self.check_ratio(held.step)
        step = fraction(held.step)
        self.assertGreaterEqual(step, 0)
        self.check_mixture(held.up, len(table))
        self.check_mixture(held.down, len(table))
        up = [column(held.up, table, j) for j in range(len(table[0]))]
        down = [column(held.down, table, j) for j in range(len(table[0]))]
        self.assertGreaterEqual(min(up), low)
        self.assertLessEqual(max(up), high + step)
        self.assertLessEqual(max(down), high)
        self.assertGreaterEqual(min(down), low - step)
        self.check_floor(held.floor, table, low, high, step)
        self.check_plan(held, world, {"up": up, "down": down}, low, high)
        self.check_sums(held.plan, world, c, low, high, step)

    def check_floor(self, floor, table, low, high, step):
        if step == 0:
            self.assertIsNone(floor)
            return
        self.assertIsInstance(floor, Floor)
        self.check_mixture(floor.above, len(table[0]))
        self.assertEqual(len(floor.below), len(table[0]))
        self.assertTrue(all(weight[0] >= 0 for weight in floor.below))
        for row in table:
            total = 0
            for above, below, w in zip(floor.above, floor.below, row):
                if floor.state == "up":
                    total += fraction(above) * (w - high) - fraction(below) * (w - low)
                else:
                    self.assertEqual(floor.state, "down")
                    total += fraction(above) * (low - w) - fraction(below) * (high - w)
            self.assertGreaterEqual(total, step)

    def check_plan(self, held, world, worths, low, high):
        plan = held.plan
        step = fraction(held.step)
        self.assertEqual((plan.side, plan.states, plan.start), ("mine", ("up", "down"), (("up", (1, 1)),)))
        for state, mixture in (("up", held.up), ("down", held.down)):
            shares = [(move, share) for move, share in zip(world.mine, mixture) if share[0] > 0]
            self.assertEqual(plan.play(state, world.boards[0]), tuple(shares))
            for j, foe in enumerate(world.foe):
                w = worths[state][j]
                turn = max(0, w - high if state == "up" else low - w) / step if step else 0
                other = "down" if state == "up" else "up"
                for mine in world.mine:
                    found = dict(plan.after(state, world.boards[0], mine, f"{mine}.{foe}"))
                    self.assertEqual(fraction(found.get(other, 0)), turn)
                    self.assertEqual(fraction(found.get(state, 0)), 1 - turn)

    def check_sums(self, plan, world, c, low, high, step):
        """The least and the greatest expected sums against all foes that know
        the state, round by round, from the last one on."""
        table = worths_in(world, c)
        least = {"up": 0, "down": 0}
        most = dict(least)
        for rounds in range(1, 6):
            sums = {}
            for state in plan.states:
                shares = [fraction(dict(plan.play(state, world.boards[0])).get(move, 0)) for move in world.mine]
                found = []
                for j, foe in enumerate(world.foe):
                    w = sum(share * row[j] for share, row in zip(shares, table))
                    after = plan.after(state, world.boards[0], world.mine[0], f"{world.mine[0]}.{foe}")
                    low_sum = w + sum(fraction(part) * least[name] for name, part in after)
                    high_sum = w + sum(fraction(part) * most[name] for name, part in after)
                    found.append((low_sum, high_sum))
                sums[state] = (min(one for one, _ in found), max(other for _, other in found))
            least = {state: sums[state][0] for state in sums}
            most = {state: sums[state][1] for state in sums}
            self.assertGreaterEqual(least["up"], rounds * low)
            self.assertLessEqual(most["up"], rounds * high + step)

    def check_beaten(self, beaten, world, c, low, high):
        self.assertIsInstance(beaten, Beaten)
        least = fraction(greatest_least(world, c).worth)
        most = fraction(least_greatest(world, c).worth)
        way = [fraction(part) for part in c]
        bound = low
        gap = low - least
        if gap <= 0:
            way = [-part for part in way]
            bound = -high
            gap = most - high
        self.assertEqual(beaten.direction, (pair(way[0]), pair(way[1])))
        self.assertEqual(beaten.gap, pair(gap))
        self.assertGreater(gap, 0)
        self.check_mixture(beaten.mixture, len(world.foe))
        for row in worths_in(world, beaten.direction):
            self.assertLessEqual(sum(fraction(q) * w for q, w in zip(beaten.mixture, row)), bound - gap)

    def check_band(self, world, c, low, high):
        found = hold_band(world, c, pair(low), pair(high))
        least = fraction(greatest_least(world, c).worth)
        most = fraction(least_greatest(world, c).worth)
        if least >= low and most <= high:
            self.check_held(found, world, c, low, high)
        else:
            self.check_beaten(found, world, c, low, high)
        return found

    def test_drawn_bands(self):
        chance = random.Random(1)
        kinds = []
        for _ in range(150):
            world = drawn_table(chance, chance.randint(1, 4), chance.randint(1, 4), 1, chance.choice((0, 1)))
            c = chance.choice(((1, 0), (0, 1), (-1, 2), (1, (1, 2)), (0, -1)))
            low = Fraction(chance.randint(-20, 10), chance.randint(1, 3))
            found = self.check_band(world, c, low, low + Fraction(chance.randint(0, 30), 2))
            kinds.append((type(found).__name__, getattr(getattr(found, "floor", None), "state", None)))
        for kind in (("Held", "up"), ("Held", "down"), ("Held", None), ("Beaten", None)):
            self.assertIn(kind, kinds)

    def test_bands_that_just_reach(self):
        chance = random.Random(2)
        for _ in range(40):
            world = drawn_table(chance, chance.randint(2, 4), chance.randint(2, 4), 2, 1)
            c = (1, chance.choice((1, -1, (3, 7))))
            least = fraction(greatest_least(world, c).worth)
            most = fraction(least_greatest(world, c).worth)
            low = min(least, most)
            high = max(least, most)
            self.check_band(world, c, low, high)
            self.check_band(world, c, least, max(most, least))
            self.check_band(world, c, min(most, least), most)
            for k in (30, 99):
                off = Fraction(1, 10**k)
                found = hold_band(world, c, pair(least + off), pair(max(most, least + off)))
                self.assertEqual(found.gap, pair(off))
                self.check_beaten(found, world, c, least + off, max(most, least + off))
                found = hold_band(world, c, pair(min(least, most - off)), pair(most - off))
                self.assertEqual(found.gap, pair(off))
                self.check_beaten(found, world, c, min(least, most - off), most - off)

    def test_lines(self):
        chance = random.Random(3)
        held = 0
        for _ in range(60):
            world = drawn_table(chance, chance.randint(1, 4), chance.randint(1, 4), 0, 0)
            line = Fraction(chance.randint(-2, 2), 2)
            found = self.check_band(world, (1, 0), line, line)
            held += isinstance(found, Held) and found.step != (0, 1)
        self.assertGreater(held, 0)

    def test_both_sides_fail(self):
        found = hold_band(PENNIES, (1, 0), 1, 1)
        self.assertEqual((found.direction, found.gap), (((1, 1), (0, 1)), (1, 1)))
        world = world_of(["a"], ["x", "y"], [[(0, 0), (4, 0)]])
        found = hold_band(world, (2, 0), 1, 3)
        self.assertEqual((found.direction, found.gap), (((2, 1), (0, 1)), (1, 1)))
        self.assertEqual(found.mixture, ((1, 1), (0, 1)))

    def test_one_known_band(self):
        world = world_of(["a", "b"], ["x", "y"], [[(2, 0), (0, 0)], [(0, 0), (-2, 0)]])
        found = hold_band(world, (1, 0), 0, 0)
        self.assertEqual((found.up, found.down, found.step), (((1, 1), (0, 1)), ((0, 1), (1, 1)), (2, 1)))
        self.assertEqual(found.plan.after("up", "b", "a", "b.x"), (("down", (1, 1)),))
        self.assertEqual(found.plan.after("up", "b", "a", "b.y"), (("up", (1, 1)),))

    def test_large_numbers(self):
        chance = random.Random(4)
        for _ in range(2):
            world = drawn_table(chance, 4, 4, 40, 12)
            c = (drawn_ratio(chance, 40, 12), drawn_ratio(chance, 40, 12))
            least = fraction(greatest_least(world, c).worth)
            most = fraction(least_greatest(world, c).worth)
            low = Fraction(int(min(least, most) * 10**100) - 1, 10**100)
            high = Fraction(int(max(least, most) * 7**100) + 1, 7**100)
            found = hold_band(world, c, pair(low), pair(high))
            self.check_held(found, world, c, low, high)

    def test_polygons_lie_in_their_bands(self):
        chance = random.Random(5)
        for _ in range(15):
            world = drawn_table(chance, chance.randint(2, 3), chance.randint(2, 3), 1)
            least = fraction(greatest_least(world, (1, 1)).worth)
            most = fraction(least_greatest(world, (1, 1)).worth)
            low, high = min(least, most), max(least, most)
            held = hold_band(world, (1, 1), pair(low), pair(high))
            for one, other in polygon(Course(held.plan)).corners:
                self.assertLessEqual(low, fraction(one) + fraction(other))
                self.assertLessEqual(fraction(one) + fraction(other), high)

    def test_errors_in_order(self):
        for low in ("a", None, (1, 0), 0.5, True, [1, 2]):
            self.check_error(BadNumber, ["low", low], hold_band, PENNIES, (1, 0), low, "b")
        for high in ("a", None, (1, 0), 0.5, True, 0, (1, 3), (-7, 2)):
            self.check_error(BadNumber, ["high", high], hold_band, PENNIES, (1, 0), (1, 2), high)
        self.check_error(BadNumber, ["direction", (0, 0)], hold_band, PENNIES, (0, 0), "a", "b")
        world = World(plain_text(("b", "a")))
        self.check_error(NotPlain, ["boards"], hold_band, world, (0, 0), "a", "b")

    def test_ratios_in_other_terms(self):
        found = hold_band(PENNIES, ((2, 4), (0, 3)), (-2, 4), (6, 12))
        self.assertIsInstance(found, Held)
        found = hold_band(PENNIES, ((2, 4), (0, 3)), (2, 4), (6, 12))
        self.assertEqual((found.direction, found.gap), (((1, 2), (0, 1)), (1, 2)))

    def test_objects_keep_what_they_are_given(self):
        shares = [(1, 2), (1, 2)]
        held = Held(PENNIES, shares, shares, (2, 4), None)
        floor = Floor("up", shares, shares)
        beaten = Beaten(((2, 2), 0), shares, (2, 4))
        shares.append(0)
        self.assertEqual((held.plan, held.up, held.down), (PENNIES, ((1, 2), (1, 2)), ((1, 2), (1, 2))))
        self.assertEqual((held.step, held.floor), ((2, 4), None))
        self.assertEqual((floor.state, floor.above, floor.below), ("up", ((1, 2), (1, 2)), ((1, 2), (1, 2))))
        self.assertEqual((beaten.direction, beaten.mixture, beaten.gap), (((2, 2), 0), ((1, 2), (1, 2)), (2, 4)))


if __name__ == "__main__":
    unittest.main()
