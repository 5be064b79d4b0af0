import random
import unittest
from fractions import Fraction

from everyfoe.agreements import gain_at, steady
from everyfoe.borders import Border, between, compared, narrowed
from everyfoe.building import Agreed, OnRim, Outside, Refused, agreed, shares_for
from everyfoe.errors import BadName, BadNumber, NotPlain, TooMany
from everyfoe.games import greatest_least, safe_levels
from everyfoe.meetings import Meeting
from everyfoe.worlds import World, world_of
from tests.helper import CheckCase, fraction, pair
from tests.making import drawn_ratio, drawn_table
from tests.test_agreements import PRISON
from tests.test_games import plain_text

SIDES = ("mine", "foe")


def pays_of(world):
    """All pays as pairs of Fractions, in the order of mine's moves, then foe's."""
    board = world.boards[0]
    return [tuple(map(fraction, world.pay(board, mine, foe))) for mine in world.mine for foe in world.foe]


class BuildingTest(CheckCase):
    def check_shares(self, world, point):
        found = shares_for(world, point)
        pays = pays_of(world)
        place = (fraction(point[0]), fraction(point[1]))
        if isinstance(found, Outside):
            self.assertIs(type(found.normal), tuple)
            for part in found.normal:
                self.check_ratio(part)
            way = [fraction(part) for part in found.normal]
            reach = way[0] * place[0] + way[1] * place[1]
            for pay in pays:
                self.assertLess(way[0] * pay[0] + way[1] * pay[1], reach)
            return False
        self.assertIs(type(found), tuple)
        self.assertEqual(len(found), len(pays))
        for weight in found:
            self.check_ratio(weight)
            self.assertGreaterEqual(weight[0], 0)
        self.assertEqual(sum(map(fraction, found)), 1)
        for side in (0, 1):
            self.assertEqual(sum(fraction(weight) * pay[side] for weight, pay in zip(found, pays)), place[side])
        return True

    def test_mixtures_of_the_pays(self):
        chance = random.Random(1)
        for k in range(40):
            world = drawn_table(chance, chance.randint(1, 4), chance.randint(1, 4), k % 3, k % 2)
            pays = pays_of(world)
            for many in (1, 2, len(pays)):
                parts = [chance.randint(1, 5) for _ in range(many)]
                chosen = [chance.choice(pays) for _ in range(many)]
                point = [sum(part * pay[side] for part, pay in zip(parts, chosen)) / sum(parts) for side in (0, 1)]
                self.assertTrue(self.check_shares(world, (pair(point[0]), pair(point[1]))))

    def test_drawn_points(self):
        chance = random.Random(2)
        kinds = []
        for _ in range(80):
            world = drawn_table(chance, chance.randint(1, 3), chance.randint(1, 3), 1)
            kinds.append(self.check_shares(world, (drawn_ratio(chance, 1, 1), drawn_ratio(chance, 1, 1))))
        self.assertIn(True, kinds)
        self.assertIn(False, kinds)

    def test_points_near_the_rim(self):
        tiny = Fraction(1, 10**30)
        self.assertTrue(self.check_shares(PRISON, (3, 3)))
        self.assertTrue(self.check_shares(PRISON, (4, (3, 2))))
        self.assertFalse(self.check_shares(PRISON, (4, pair(Fraction(3, 2) + tiny))))
        line = world_of(["a", "b"], ["x"], [[(0, 0)], [(2, 4)]])
        self.assertTrue(self.check_shares(line, (1, (6, 3))))
        self.assertFalse(self.check_shares(line, (1, pair(2 + tiny))))
        self.assertFalse(self.check_shares(line, (1, pair(2 - tiny))))
        self.assertFalse(self.check_shares(line, (3, 6)))
        self.assertFalse(self.check_shares(line, (-1, -2)))
        point = world_of(["a"], ["x"], [[(1, 1)]])
        self.assertTrue(self.check_shares(point, (1, 1)))
        for x, y in ((1, 2), (1, 0), (0, 1), (2, 1), (2, 2), (0, -5)):
            self.assertFalse(self.check_shares(point, (x, y)))

    def test_wrong_points(self):
        for point in (None, 1, [1, 1], (1,), (1, 1, 1), (1, 0.5), (True, 1), ((1, 0), 1), "ab"):
            self.check_error(BadNumber, ["point", point], shares_for, PRISON, point)

    def test_worlds_that_are_not_plain(self):
        many = World(plain_text(("b", "a"), "signal * * x:1\n"))
        signals = World(plain_text(signal="signal * * x:1\n"))
        for call, last in ((shares_for, None), (agreed, ())):
            self.check_error(NotPlain, ["boards"], call, many, last)
            self.check_error(NotPlain, ["signals"], call, signals, last)

    def check_agreed(self, world, row):
        found = agreed(world, row)
        board = world.boards[0]
        pays = [tuple(map(fraction, world.pay(board, *each))) for each in row]
        means = [sum(pay[side] for pay in pays) / len(pays) for side in (0, 1)]
        levels = [fraction(level) for level in safe_levels(world)]
        below = [side for side in (0, 1) if means[side] < levels[side]]
        rim = [side for side in (0, 1) if means[side] == levels[side]]
        if below:
            self.check_refused(found, world, below[0], levels[below[0]])
        elif rim:
            self.assertIsInstance(found, OnRim)
            self.assertEqual(found.side, SIDES[rim[0]])
        else:
            self.assertIsInstance(found, Agreed)
            self.check_plan(found.plan, world, row, 0, levels[1])
            self.check_plan(found.against, world, row, 1, levels[0])
            self.assertEqual(Meeting(found.plan, found.against).means(), (pair(means[0]), pair(means[1])))
            self.check_border(found, world, row)
        return found

    def check_refused(self, found, world, side, level):
        self.assertIsInstance(found, Refused)
        self.assertEqual((found.side, found.level), (SIDES[side], pair(level)))
        shares = [fraction(share) for share in found.mixture]
        self.assertEqual((sum(shares), min(shares) >= 0), (1, True))
        board = world.boards[0]
        for move in (world.foe, world.mine)[side]:
            worth = 0
            for own, share in zip((world.mine, world.foe)[side], shares):
                moves = (own, move) if side == 0 else (move, own)
                worth += share * fraction(world.pay(board, *moves)[side])
            self.assertGreaterEqual(worth, level)

    def check_plan(self, plan, world, row, side, level):
        many = len(row)
        board = world.boards[0]
        self.assertEqual(plan.side, SIDES[side])
        self.assertEqual(plan.states, tuple([f"s{k + 1}" for k in range(many + 1)]))
        self.assertEqual(plan.start, (("s1", (1, 1)),))
        last = plan.states[-1]
        for k, each in enumerate(row):
            self.assertEqual(plan.play(f"s{k + 1}", board), ((each[side], (1, 1)),))
            for other in (world.foe, world.mine)[side]:
                moves = (each[0], other) if side == 0 else (other, each[1])
                goal = f"s{(k + 1) % many + 1}" if moves == tuple(each) else last
                self.assertEqual(plan.after(f"s{k + 1}", board, each[side], ".".join(moves)), ((goal, (1, 1)),))
        for mine in world.mine:
            for foe in world.foe:
                self.assertEqual(plan.after(last, board, (mine, foe)[side], f"{mine}.{foe}"), ((last, (1, 1)),))
        for other in (world.foe, world.mine)[side]:
            worth = 0
            for own, share in plan.play(last, board):
                moves = (own, other) if side == 0 else (other, own)
                worth += fraction(share) * fraction(world.pay(board, *moves)[1 - side])
            self.assertLessEqual(worth, level)

    def asks(self, world, row, x):
        """Whether all that the agreement asks is true at a Fraction x."""
        board = world.boards[0]
        many = len(row)
        for side in (0, 1):
            level = fraction(safe_levels(world)[side])
            own = [fraction(world.pay(board, *each)[side]) for each in row]
            for k, each in enumerate(row):
                total = sum(x**n * own[(k + n) % many] for n in range(many)) / sum(x**n for n in range(many))
                for move in (world.mine, world.foe)[side]:
                    moves = (move, each[1]) if side == 0 else (each[0], move)
                    pay = fraction(world.pay(board, *moves)[side])
                    if move != each[side] and total < (1 - x) * pay + x * level:
                        return False
        return True

    def check_border(self, found, world, row):
        border = found.border
        if isinstance(border, Border):
            self.assertIsNone(border.ratio)
        else:
            self.check_ratio(border)
            self.assertTrue(0 <= fraction(border) < 1)
            if border != (0, 1):
                self.assertTrue(self.asks(world, row, fraction(border)))
        for x in [(k, 20) for k in range(1, 20)] + [between(border, (1, 1))]:
            if compared(border, x) <= 0:
                self.assertTrue(self.asks(world, row, fraction(x)))
        if border != (0, 1):
            near = narrowed(border, (1, 10**12))
            low = fraction(near.low) if isinstance(near, Border) else fraction(near) - Fraction(1, 10**12)
            self.assertFalse(self.asks(world, row, low))
        sets = steady(found.plan, found.against, "both")
        self.assertEqual(compared(sets[-1].low, border), 0)
        self.assertEqual(sets[-1].high, (1, 1))
        for side in SIDES:
            self.assertEqual(gain_at(found.plan, found.against, side, between(border, (1, 1))).number, (0, 1))

    def test_drawn_rows(self):
        chance = random.Random(3)
        kinds = []
        for k in range(150):
            world = drawn_table(chance, chance.randint(1, 3), chance.randint(1, 3), 1 if k % 2 else 0, k % 2)
            row = tuple((chance.choice(world.mine), chance.choice(world.foe)) for _ in range(chance.randint(1, 5)))
            found = self.check_agreed(world, row)
            kinds.append((type(found).__name__, getattr(found, "side", None)))
            if isinstance(found, Agreed):
                kinds.append(type(found.border).__name__ if found.border != (0, 1) else "always")
        for kind in (("Agreed", None), ("Refused", "mine"), ("Refused", "foe"), ("OnRim", "mine"), ("OnRim", "foe")):
            self.assertIn(kind, kinds)
        for kind in ("Border", "tuple", "always"):
            self.assertIn(kind, kinds)

    def test_known_rows(self):
        found = self.check_agreed(PRISON, (("c", "c"),))
        self.assertEqual(found.border, (1, 2))
        self.assertEqual(found.plan.play("s2", "b"), (("d", (1, 1)),))
        found = self.check_agreed(PRISON, (("c", "d"), ("d", "c")))
        self.assertEqual(found.border, (1, 4))
        found = self.check_agreed(PRISON, (("d", "d"),))
        self.assertEqual(found.side, "mine")
        found = self.check_agreed(PRISON, (("c", "d"),))
        self.assertEqual((found.side, found.level), ("mine", (1, 1)))
        found = self.check_agreed(PRISON, (("d", "c"),))
        self.assertEqual((found.side, found.level), ("foe", (1, 1)))
        quiet = world_of(["a", "b"], ["x", "y"], [[(3, 3), (0, 0)], [(0, 0), (1, 1)]])
        self.assertEqual(self.check_agreed(quiet, (("a", "x"),)).border, (0, 1))

    def test_many_pairs(self):
        row = (("c", "c"),) * 22 + (("c", "d"),)
        found = self.check_agreed(PRISON, row)
        self.assertEqual(len(found.plan.states), 24)
        self.check_error(TooMany, ["row", 24, 23], agreed, PRISON, row + (("c", "z"),))

    def test_mixed_punishing(self):
        world = world_of(["h", "t"], ["h", "t"], [[(3, -1), (-1, 3)], [(-1, 3), (3, -1)]])
        self.assertEqual(safe_levels(world), ((1, 1), (1, 1)))
        self.assertIsInstance(agreed(world, (("h", "h"), ("h", "t"))), OnRim)
        world = world_of(["h", "t", "c"], ["h", "t", "c"], [
            [(3, -1), (-1, 3), (0, 0)], [(-1, 3), (3, -1), (0, 0)], [(0, 0), (0, 0), (2, 2)]])
        found = self.check_agreed(world, (("c", "c"),))
        self.assertEqual(fraction(greatest_least(world, (1, 0)).worth), fraction(safe_levels(world)[0]))
        self.assertIsInstance(found, Agreed)

    def test_errors_in_order(self):
        self.check_error(BadNumber, ["row", 0], agreed, PRISON, ())
        self.check_error(BadName, ["x"], agreed, PRISON, (("c", "c"), ("x", "y"), ("z", "c")))
        self.check_error(BadName, ["y"], agreed, PRISON, (("c", "c"), ("c", "y"), ("z", "c")))
        self.check_error(BadName, ["z"], agreed, PRISON, (("c", "c"), ("d", "c"), ("z", "q")))
        self.check_error(TooMany, ["row", 30, 23], agreed, PRISON, (("x", "y"),) * 30)
        other = world_of(["a"], ["x"], [[(1, 1)]])
        self.check_error(BadName, ["x"], agreed, other, (("x", "a"),))


if __name__ == "__main__":
    unittest.main()
