"""The parts of the program together: what several of them tell is the same."""

import random
import unittest

from everyfoe.agreements import steady
from everyfoe.alike import Alike, alike, alike_in_pay
from everyfoe.borders import compared
from everyfoe.builders import least, mixed, trembled
from everyfoe.building import Agreed, agreed
from everyfoe.courses import Course
from everyfoe.desk import Desk
from everyfoe.fields import outdone
from everyfoe.games import greatest_least, least_greatest, safe_levels
from everyfoe.holding import HeldZone, hold_zone
from everyfoe.means import greatest_mean, mean_of
from everyfoe.meetings import Meeting
from everyfoe.pieces import error_pieces, patience_pieces, worth_in
from everyfoe.polygons import polygon
from everyfoe.ratios import ratio_text
from everyfoe.zones import Zone
from tests.helper import CheckCase, fraction
from tests.making import drawn_plan, drawn_table, drawn_world

DIRECTIONS = ((1, 0), (0, 1), (-1, 1), (2, (-1, 3)), (-1, -1))


def worth_at(c, point):
    return sum(fraction(one) * fraction(other) for one, other in zip(c, point))


class TogetherTest(CheckCase):
    def test_one_greatest_mean(self):
        chance = random.Random(1)
        for k in range(12):
            world = drawn_world(chance, 2, 2, chance.randint(1, 2))
            side = ("mine", "foe")[k % 2]
            plan = drawn_plan(chance, world, side, chance.randint(1, 3))
            course = Course(plan)
            desk = Desk(f"world w\n{world.text}plan p on w for {side}\n{plan.text}")
            for c in DIRECTIONS[:3]:
                best = greatest_mean(course, c)
                self.assertEqual(worth_at(c, mean_of(course, best.choice)), fraction(best.worth))
                self.assertEqual(max(worth_at(c, corner) for corner in polygon(course).corners), fraction(best.worth))
                self.assertEqual(patience_pieces(course, c)[-1].worth.at(1), best.worth)
                words = " ".join([ratio_text(part) for part in c])
                self.assertEqual(desk.ask(f"p mean {words}"), ratio_text(best.worth))
                desk.keep(f"p mean {words} at most {ratio_text(best.worth)}")

    def test_pieces_of_errors(self):
        chance = random.Random(2)
        for _ in range(10):
            world = drawn_world(chance, 2, 2, chance.randint(1, 2))
            plan = drawn_plan(chance, world, "mine", 2)
            course = Course(trembled(world, plan))
            if course.lettered:
                for c in DIRECTIONS[:2]:
                    pieces = error_pieces(course, c)
                    for ratio in ((1, 1000), (1, 3), (5, 6)):
                        self.assertEqual(worth_in(pieces, ratio), greatest_mean(course.settled(ratio), c).worth)

    def test_the_least_plan(self):
        chance = random.Random(3)
        for k in range(12):
            world = drawn_world(chance, 2, 2, chance.randint(1, 2))
            plan = drawn_plan(chance, world, ("mine", "foe")[k % 2], 3)
            twice = mixed(world, [plan, plan], [(1, 4), (3, 4)])
            smaller = least(world, twice).plan
            self.assertIsInstance(alike(smaller, plan), Alike)
            self.assertIsInstance(alike_in_pay(smaller, twice, (1, -1)), Alike)
            corners = polygon(Course(plan)).corners
            self.assertEqual(polygon(Course(smaller)).corners, corners)
            self.assertEqual(polygon(Course(twice)).corners, corners)

    def test_no_plan_secures_more_than_a_mixture(self):
        chance = random.Random(4)
        for _ in range(15):
            world = drawn_table(chance, chance.randint(1, 3), chance.randint(1, 3), 1)
            plan = drawn_plan(chance, world, "mine", 2)
            course = Course(plan)
            for c in DIRECTIONS:
                back = tuple([(-fraction(part).numerator, fraction(part).denominator) for part in c])
                least_mean = -fraction(greatest_mean(course, back).worth)
                self.assertLessEqual(least_mean, fraction(greatest_least(world, c).worth))
                most = fraction(greatest_mean(course, c).worth)
                self.assertGreaterEqual(most, fraction(least_greatest(world, c).worth))
            own, other = safe_levels(world)
            self.assertGreaterEqual(fraction(greatest_mean(course, (0, 1)).worth), fraction(other))
            foe = drawn_plan(chance, world, "foe", 2)
            self.assertGreaterEqual(fraction(greatest_mean(Course(foe), (1, 0)).worth), fraction(own))

    def test_what_plans_reach(self):
        chance = random.Random(5)
        for _ in range(20):
            world = drawn_world(chance, 2, 2, chance.randint(1, 2))
            plan = drawn_plan(chance, world, "mine", chance.randint(1, 3))
            foe = drawn_plan(chance, world, "foe", chance.randint(1, 3))
            means = Meeting(plan, foe).means()
            self.assertIn(means, polygon(Course(plan)))
            self.assertIn(means, polygon(Course(foe)))
            self.assertLessEqual(worth_at((-1, 1), means), fraction(outdone(plan).worth))
            self.assertLessEqual(worth_at((1, -1), means), fraction(outdone(foe).worth))

    def test_borders_and_steady_sets(self):
        chance = random.Random(6)
        agreements = 0
        for _ in range(40):
            world = drawn_table(chance, 2, chance.randint(2, 3), 1)
            row = tuple((chance.choice(world.mine), chance.choice(world.foe)) for _ in range(chance.randint(1, 3)))
            found = agreed(world, row)
            if isinstance(found, Agreed):
                agreements += 1
                last = steady(found.plan, found.against, "both")[-1]
                self.assertEqual((compared(last.low, found.border), last.high), (0, (1, 1)))
        self.assertGreater(agreements, 5)

    def test_held_zones_hold(self):
        chance = random.Random(7)
        for _ in range(10):
            world = drawn_table(chance, 2, 2, 1)
            zone = Zone([(chance.randint(-5, 5), chance.randint(-5, 5)) for _ in range(3)]).grown(5)
            found = hold_zone(world, zone)
            if isinstance(found, HeldZone) and len(found.plan.states) <= 10:
                foe = drawn_plan(chance, world, "foe", 2)
                self.assertIn(Meeting(found.plan, foe).means(), zone)
                for corner in polygon(Course(found.plan)).corners:
                    self.assertIn(corner, zone)


if __name__ == "__main__":
    unittest.main()
