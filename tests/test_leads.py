import random
import unittest
from fractions import Fraction

from everyfoe.courses import Course
from everyfoe.errors import BadNumber
from everyfoe.leads import Gaining, Lead, lead
from everyfoe.plans import Plan
from everyfoe.quotients import Quotient
from everyfoe.rulebooks import Rulebook
from everyfoe.worlds import World
from tests.helper import CheckCase, fraction, pair
from tests.test_courses import ANGRY, E, TABLE, drawn_course, first_ones, let, outcomes

NO_DIRECTIONS = [
    None, 0, 1, "10", (0, 0), ((0, 3), 0), (1,), (1, 2, 3), [1, 2], (1, None), (True, 1), (1, False), ("1", 1), ((1, 0), 1),
    ((1, -2), 1), ([1, 2], 1), (1.0, 1), {}, (Quotient((1,)), 1), (),
]


def steps_of(course):
    """All steps that can happen, with the pays of their moves."""
    found = {}
    index = {standing: k for k, standing in enumerate(course.standings)}
    for k, standing in enumerate(course.standings):
        for free in let(course, standing):
            for own, after in outcomes(course, standing, free, E[0]):
                moves = (own, free) if course.side == "foe" else (free, own)
                found[(k, *moves, index[after])] = course.world.pay(standing[0], *moves)
    return found


def sum_of(run, pays, c):
    return sum((fraction(c[side]) * fraction(pays[step][side]) for step in run for side in (0, 1)), Fraction(0))


class LeadCase(CheckCase):
    def check_run(self, run, pays):
        self.assertIs(type(run), tuple)
        for step in run:
            self.assertIn(step, pays)
            self.assertEqual([type(word) for word in step], [int, str, str, int])
        for one, other in zip(run, run[1:]):
            self.assertEqual(one[3], other[0])

    def best_sums(self, course, pays, c, many):
        """The greatest sums of runs of at most so many steps."""
        spots = [Fraction(0)] * len(course.standings)
        for _ in range(many):
            best = [Fraction(0)] * len(spots)
            for step in pays:
                best[step[0]] = max(best[step[0]], sum_of([step], pays, c) + spots[step[3]])
            spots = best
        return spots

    def check_lead(self, course, c):
        found = lead(course, c)
        pays = steps_of(course)
        many = len(course.standings)
        firsts = [k for k, standing in enumerate(course.standings) if standing in first_ones(course)]
        spots = self.best_sums(course, pays, c, many)
        self.check_run(found.run, pays)
        if self.best_sums(course, pays, c, many + 1) == spots:
            self.assertIsInstance(found, Lead)
            self.assertEqual(found.spots, tuple(pair(spot) for spot in spots))
            self.assertEqual(found.number, pair(max(spots[k] for k in firsts)))
            self.check_ratio(found.number)
            self.assertEqual(pair(sum_of(found.run, pays, c)), found.number)
            if found.run:
                self.assertIn(found.run[0][0], firsts)
        else:
            self.assertIsInstance(found, Gaining)
            self.check_run(found.ring, pays)
            self.assertGreater(sum_of(found.ring, pays, c), 0)
            self.assertEqual(found.ring[0][0], found.ring[-1][3])
            way = found.run + found.ring
            self.check_run(way, pays)
            self.assertIn(way[0][0], firsts)
        again = lead(course, c)
        self.assertEqual((type(again), vars(again)), (type(found), vars(found)))
        return found


class LeadTest(LeadCase):
    def test_drawn_courses(self):
        chance = random.Random(1)
        kinds = {}
        for count in range(200):
            course = drawn_course(chance, count % 3 == 0)
            for _ in range(3):
                c = (chance.randint(-3, 3), (chance.randint(-3, 3), chance.randint(1, 3)))
                if fraction(c[0]) or fraction(c[1]):
                    found = self.check_lead(course, c)
                    key = (type(found).__name__, course.lettered, course.rulebook is not None)
                    kinds[key] = kinds.get(key, 0) + 1
        self.assertEqual(len(kinds), 8, kinds)

    def test_costs(self):
        """Pays that are mostly below 0 have leads of long runs."""
        chance = random.Random(2)
        longest = 0
        for _ in range(80):
            world = "mine c d\nfoe c d\nboard b\n" + "".join(f"pay {m} {f} {chance.choice([-9, -5, -2, 1, 4])} 0\n" for m in "cd" for f in "cd")
            states = [f"q{k}" for k in range(5)]
            lines = ["state " + " ".join(states)]
            for k, state in enumerate(states):
                lines += [f"play {state} b {chance.choice('cd')}:1", f"go {state} * * *.c {states[(k + 1) % 5]}:1", f"go {state} * * *.d {chance.choice(states)}:1"]
            course = Course(Plan(World(world), "\n".join(lines)))
            found = self.check_lead(course, (1, 0))
            if isinstance(found, Lead):
                longest = max(longest, len(found.run))
        self.assertGreater(longest, 2)

    def test_rings_near_0(self):
        small = Fraction(1, 10 ** 30)
        text = "state s t u\nstart u:1\nplay * * c:1\ngo s * * * t:1\ngo t * * *.c s:1\ngo u * * * s:1\n"
        for extra in (-small, Fraction(0), small):
            top, bottom = pair(Fraction(2, 3) + extra)
            world = World(f"mine c\nfoe c d\nboard b\npay c c {top}/{bottom} 0\npay c d -2/3 0\n")
            # From s by c, from t by d and c: no ring of c and d gains, unless it is above 0.
            plan = Plan(world, "state s t\nplay * * c:1\ngo s * * *.c t:1\ngo t * * *.d s:1\n")
            book = Rulebook(world, "state r q\nbar r * d\nbar q * c\ngo r * * * * q\ngo q * * * * r\n")
            course = Course(plan, book)
            found = self.check_lead(course, (1, 0))
            self.assertIsInstance(found, Gaining if extra > 0 else Lead)
            if extra <= 0:
                self.assertEqual(found.number, (top, bottom))
            found = self.check_lead(course, (-1, 0))
            self.assertIsInstance(found, Gaining if extra < 0 else Lead)
        self.assertEqual(len(Plan(World("mine c\nfoe c\nboard b\npay * * 0 0"), text).states), 3)

    def test_a_lead(self):
        course = Course(Plan(TABLE, ANGRY))
        found = lead(course, (-1, 1))
        self.assertEqual((found.number, found.run[-1], found.spots), ((5, 1), (0, "c", "d", 1), ((5, 1), (0, 1))))
        found = lead(course, (0, -1))
        self.assertEqual((found.number, found.run, found.spots), ((0, 1), (), ((0, 1), (0, 1))))
        found = lead(course, ((1, 2), 0))
        self.assertIsInstance(found, Gaining)

    def test_runs_to_rings(self):
        text = "state s t u\nplay s * c:1\nplay * * d:1\nplay s * c:1\ngo s * * * t:1\ngo t * * * u:1\n"
        found = self.check_lead(Course(Plan(TABLE, text)), (0, 1))
        self.assertIsInstance(found, Gaining)
        ring = World("mine c d\nfoe c\nboard b\npay c c -7 0\npay d c 1 0\n")
        found = self.check_lead(Course(Plan(ring, text)), (1, 0))
        self.assertEqual((found.run, found.ring), (((0, "c", "c", 1), (1, "d", "c", 2)), ((2, "d", "c", 2),)))

    def test_letters(self):
        # A step that has a chance counts, however small it is for small e.
        letter = Course(Plan(TABLE, "state s t\nplay s * c:1-e d:e\nplay t * d:1\ngo s * d * t:1\n"))
        settled = letter.settled((1, 3))
        for c in ((1, -1), (-1, 1), (-1, 0), (0, -1), ((-1, 2), (-1, 3))):
            one, other = self.check_lead(letter, c), self.check_lead(settled, c)
            self.assertEqual((type(one), vars(one)), (type(other), vars(other)))
        start = Course(Plan(TABLE, "state s t\nstart s:e t:1-e\nplay s * c:1\nplay t * d:1\n"))
        self.assertEqual(self.check_lead(start, (-1, 0)).number, (0, 1))

    def test_directions(self):
        for course in (Course(Plan(TABLE, ANGRY)), Course(Plan(TABLE, "state s\nplay s * c:e d:1-e\n"))):
            for value in NO_DIRECTIONS:
                self.check_error(BadNumber, ("direction", value), lead, course, value)
        course = Course(Plan(TABLE, ANGRY))
        one, other = lead(course, ((-2, 4), (3, 6))), lead(course, ((-1, 2), (1, 2)))
        self.assertEqual(vars(one), vars(other))
        self.assertEqual(one.number, (5, 2))


if __name__ == "__main__":
    unittest.main()
