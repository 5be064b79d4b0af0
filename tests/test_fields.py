import random
import unittest
from fractions import Fraction

from everyfoe.courses import Course
from everyfoe.errors import HasLetter, Unlike
from everyfoe.fields import field, outdone
from everyfoe.means import Mean, greatest_mean, mean_holds
from everyfoe.meetings import Meeting
from everyfoe.plans import Plan
from everyfoe.worlds import World
from tests.helper import CheckCase, fraction
from tests.making import drawn_plan, drawn_world
from tests.test_agreements import GRIM, PRISON


class FieldsTest(CheckCase):
    def test_drawn_fields(self):
        chance = random.Random(1)
        for k in range(12):
            world = drawn_world(chance, 2, 2, chance.randint(1, 2), letter=k % 3 == 0)
            plans = tuple(drawn_plan(chance, world, "mine", chance.randint(1, 2), letter=k % 2 == 0) for _ in range(3))
            others = tuple(drawn_plan(chance, world, "foe", chance.randint(1, 2)) for _ in range(2))
            found = field(plans, others)
            self.assertIs(type(found), tuple)
            self.assertEqual(len(found), 3)
            for plan, row in zip(plans, found):
                self.assertIs(type(row), tuple)
                self.assertEqual(row, tuple([Meeting(plan, other).means() for other in others]))

    def test_several_closed_sets(self):
        world = World("mine c d\nfoe c d\nboard b\npay * * 0 0\npay c c 6 3\npay d d 1 1\n")
        plan = Plan(world, "state a x y\nplay a * c:1/3 d:2/3\nplay x * c:1\nplay y * d:1\ngo a * c * x:1\ngo a * d * y:1\n")
        other = Plan(world, "state a x y\nplay a * c:1\nplay x * c:1\nplay y * d:1\ngo a * * c.* x:1\ngo a * * d.* y:1\n", "foe")
        self.assertEqual(field((plan,), (other,)), (((((8, 3)), (5, 3)),),))

    def test_no_plans(self):
        grim = Plan(PRISON, GRIM)
        foe = Plan(PRISON, GRIM, "foe")
        self.assertEqual(field((), (foe,)), ())
        self.assertEqual(field((grim, grim), ()), ((), ()))
        self.assertEqual(field((), ()), ())

    def test_errors_of_the_first_meeting(self):
        grim = Plan(PRISON, GRIM)
        foe = Plan(PRISON, GRIM, "foe")
        far = Plan(World(PRISON.text + "pay c c 2 2\n"), GRIM, "foe")
        self.check_error(Unlike, ["world"], field, (grim, foe), (foe, far))
        self.check_error(Unlike, ["side"], field, (grim, foe), (foe,))
        self.check_error(Unlike, ["side"], field, (grim,), (foe, grim, far))

    def test_outdone(self):
        chance = random.Random(2)
        for k in range(30):
            world = drawn_world(chance, 2, 2, chance.randint(1, 2))
            side = ("mine", "foe")[k % 2]
            plan = drawn_plan(chance, world, side, chance.randint(1, 3))
            course = Course(plan)
            c = (-1, 1) if side == "mine" else (1, -1)
            found = outdone(plan)
            self.assertIsInstance(found, Mean)
            self.assertEqual(found.worth, greatest_mean(course, c).worth)
            self.assertTrue(mean_holds(course, c, found.gains, found.rests))
            other = drawn_plan(chance, world, ("foe", "mine")[k % 2], 2)
            means = Meeting(plan, other).means() if side == "mine" else Meeting(other, plan).means()
            own, free = [Fraction(*mean) for mean in (means if side == "mine" else means[::-1])]
            self.assertLessEqual(free - own, fraction(found.worth))

    def test_known_outdone(self):
        self.assertEqual(outdone(Plan(PRISON, GRIM)).worth, (0, 1))
        self.assertEqual(outdone(Plan(PRISON, "state a\nplay * * c:1\n")).worth, (5, 1))
        self.assertEqual(outdone(Plan(PRISON, "state a\nplay * * d:1\n", "foe")).worth, (0, 1))
        lettered = Plan(PRISON, "state a\nplay * * c:e d:1-e\n")
        self.check_error(HasLetter, [], outdone, lettered)


if __name__ == "__main__":
    unittest.main()
