import random
import unittest
from fractions import Fraction

from everyfoe.arcs import arcs
from everyfoe.bands import hold_band
from everyfoe.errors import BadNumber, NotPlain
from everyfoe.games import Level, greatest_least, least_greatest, safe_levels
from everyfoe.holding import hold_zone
from everyfoe.worlds import World, world_of
from everyfoe.zones import Zone
from tests.helper import CheckCase, fraction
from tests.making import drawn_ratio, drawn_table

PENNIES = world_of(["h", "t"], ["h", "t"], [[(1, -1), (-1, 1)], [(-1, 1), (1, -1)]])
DIRECTIONS = ((1, 0), (0, 1), (-1, 0), (0, -1))


def worths_in(world, c):
    """The worths of the pays of a plain world, as Fractions."""
    found = []
    for mine in world.mine:
        pays = [world.pay(world.boards[0], mine, foe) for foe in world.foe]
        found.append([fraction(c[0]) * fraction(a) + fraction(c[1]) * fraction(b) for a, b in pays])
    return found


def plain_text(boards=("b",), signal=""):
    lines = ["mine c d", "foe c d"]
    for name in boards:
        lines += [f"board {name}", "pay * * 1 2"]
    return "\n".join(lines) + "\n" + signal


class GamesTest(CheckCase):
    def check_level(self, level, world, c, sign):
        """The level is right: the sign is 1 for the greatest least worth."""
        table = [[sign * item for item in row] for row in worths_in(world, c)]
        self.assertIsInstance(level, Level)
        self.check_ratio(level.worth)
        worth = sign * fraction(level.worth)
        for mixture, many in ((level.mixture, len(table)), (level.against, len(table[0]))):
            self.assertIs(type(mixture), tuple)
            self.assertEqual(len(mixture), many)
            for share in mixture:
                self.check_ratio(share)
                self.assertGreaterEqual(share[0], 0)
            self.assertEqual(sum(map(fraction, mixture)), 1)
        mixture = [fraction(share) for share in level.mixture]
        against = [fraction(share) for share in level.against]
        for j in range(len(table[0])):
            self.assertGreaterEqual(sum(p * row[j] for p, row in zip(mixture, table)), worth)
        for row in table:
            self.assertLessEqual(sum(q * item for q, item in zip(against, row)), worth)

    def test_levels_of_drawn_worlds(self):
        chance = random.Random(1)
        for mine in range(1, 5):
            for foe in range(1, 5):
                for above, below in ((1, 0), (2, 1), (30, 5)):
                    world = drawn_table(chance, mine, foe, above, below)
                    drawn = (drawn_ratio(chance, above, below), drawn_ratio(chance, 1, 1))
                    if drawn[0][0] == 0 and drawn[1][0] == 0:
                        drawn = (1, 1)
                    for c in (*DIRECTIONS, drawn):
                        self.check_level(greatest_least(world, c), world, c, 1)
                        self.check_level(least_greatest(world, c), world, c, -1)

    def test_many_levels(self):
        chance = random.Random(2)
        for _ in range(150):
            world = drawn_table(chance, chance.randint(1, 4), chance.randint(1, 4), 0)
            c = chance.choice(((1, 1), (1, -1), (2, 1), (-1, (1, 3))))
            self.check_level(greatest_least(world, c), world, c, 1)
            self.check_level(least_greatest(world, c), world, c, -1)

    def test_rows_and_columns_alike(self):
        chance = random.Random(6)
        for _ in range(60):
            lines = [[(drawn_ratio(chance, 1), drawn_ratio(chance, 1)) for _ in range(2)] for _ in range(2)]
            columns = [chance.randrange(2) for _ in range(chance.randint(1, 4))]
            rows = [chance.randrange(2) for _ in range(chance.randint(1, 4))]
            world = world_of(list("abcd")[: len(rows)], list("wxyz")[: len(columns)], [[lines[i][j] for j in columns] for i in rows])
            for c in (*DIRECTIONS, (2, (-1, 3))):
                self.check_level(greatest_least(world, c), world, c, 1)
                self.check_level(least_greatest(world, c), world, c, -1)

    def test_direction_with_the_other_signs(self):
        chance = random.Random(3)
        for _ in range(20):
            world = drawn_table(chance, chance.randint(1, 4), chance.randint(1, 4), 2, 1)
            c = (chance.randint(1, 5), (chance.randint(-5, 5), 3))
            back = (-c[0], (-c[1][0], 3))
            least = greatest_least(world, c)
            most = least_greatest(world, back)
            self.assertEqual(fraction(least.worth), -fraction(most.worth))

    def test_known_levels(self):
        level = greatest_least(PENNIES, (2, 0))
        self.assertEqual((level.worth, level.mixture, level.against), ((0, 1), ((1, 2), (1, 2)), ((1, 2), (1, 2))))
        self.assertEqual(safe_levels(PENNIES), ((0, 1), (0, 1)))
        world = world_of(["c", "d"], ["c", "d"], [[(3, 3), (0, 5)], [(5, 0), (1, 1)]])
        self.assertEqual(safe_levels(world), ((1, 1), (1, 1)))
        self.assertEqual(greatest_least(world, (0, 1)).worth, (3, 1))
        self.assertEqual(least_greatest(world, (1, 0)).worth, (3, 1))
        self.assertEqual(greatest_least(world, ((2, 4), (0, 7))).worth, (1, 2))

    def test_safe_levels(self):
        chance = random.Random(4)
        for _ in range(20):
            world = drawn_table(chance, chance.randint(1, 4), chance.randint(1, 4), 1, 1)
            own, other = safe_levels(world)
            self.assertEqual(own, greatest_least(world, (1, 0)).worth)
            self.assertEqual(other, least_greatest(world, (0, 1)).worth)

    def test_errors_in_order(self):
        many = World(plain_text(("b", "a"), "signal * * x:1\n"))
        signals = World(plain_text(signal="signal * * x:e y:1-e\nsignal * * c:1\n"))
        dead = World(plain_text(signal="signal c c x:1\nsignal * * c.c1:1\n".replace("c.c1", "c")))
        zone = Zone([(0, 0)])
        calls = [
            lambda world: greatest_least(world, (0, 0)),
            lambda world: least_greatest(world, (0, 0)),
            safe_levels,
            lambda world: hold_band(world, (0, 0), "low", "high"),
            arcs,
            lambda world: hold_zone(world, zone),
        ]
        for call in calls:
            self.check_error(NotPlain, ["boards"], call, many)
            self.check_error(NotPlain, ["signals"], call, signals)
            self.check_error(NotPlain, ["signals"], call, dead)
        for c in ((0, 0), (0, (0, 5)), [1, 0], (1,), (1, 0, 0), (True, 1), ((1, 0), 1), None, "ab", (1, 0.5)):
            self.check_error(BadNumber, ["direction", c], greatest_least, PENNIES, c)
            self.check_error(BadNumber, ["direction", c], least_greatest, PENNIES, c)

    def test_going_to_the_own_board_is_plain(self):
        world = World(plain_text(signal="go * * b:1\n"))
        self.assertEqual(greatest_least(world, (1, 0)).worth, (1, 1))
        self.assertEqual(Fraction(*least_greatest(world, (0, 1)).worth), 2)

    def test_objects_keep_what_they_are_given(self):
        shares = [(1, 2), (1, 2)]
        level = Level((2, 4), shares, (1,))
        shares.append(0)
        self.assertEqual((level.worth, level.mixture, level.against), ((2, 4), ((1, 2), (1, 2)), (1,)))

    def test_equal_calls_tell_equal_answers(self):
        world = drawn_table(random.Random(5), 4, 4)
        first = greatest_least(world, (1, 1))
        again = greatest_least(world, (1, 1))
        self.assertEqual((first.worth, first.mixture, first.against), (again.worth, again.mixture, again.against))


if __name__ == "__main__":
    unittest.main()
