import itertools
import random
import unittest
from fractions import Fraction

from everyfoe.courses import Course
from everyfoe.errors import BadChoice, BadNumber, HasLetter
from everyfoe.means import Mean, greatest_mean, mean_holds, mean_of
from everyfoe.plans import Plan
from everyfoe.quotients import Quotient
from everyfoe.rulebooks import Rulebook
from everyfoe.worlds import World
from tests.helper import CheckCase, fraction, pair
from tests.making import drawn_plan, drawn_world
from tests.test_courses import ANGRY, TABLE, drawn_course
from tests.test_leads import NO_DIRECTIONS
from tests.test_meetings import class_chances, closed_sets, stationary

LETTER = Plan(TABLE, "state s\nplay s * c:e d:1-e\n")
WORLD_LETTER = World(TABLE.text + "signal c c u:e v:1-e\n")
LETTERED = [Course(LETTER), Course(Plan(WORLD_LETTER, "state s\nplay s * c:1\n"))]


def all_choices(course):
    return itertools.product(*[course.moves(k) for k in range(len(course.standings))])


def many_choices(course):
    many = 1
    for k in range(len(course.standings)):
        many *= len(course.moves(k))
    return many


def chain_of(course, choice):
    rows = []
    for k, move in enumerate(choice):
        row = [Fraction(0)] * len(choice)
        for _, after, chance in course.steps(k, move):
            row[after] += fraction(chance)
        rows.append(row)
    return rows


def chain_means(course, choice):
    """The means of a choice from each standing: pairs of Fractions."""
    rows = chain_of(course, choice)
    many = len(rows)
    pays = [[fraction(amount) for amount in course.pay(k, move)] for k, move in enumerate(choice)]
    classes = closed_sets(rows)
    means = [[sum(share * pays[k][side] for share, k in zip(stationary(rows, members), members)) for side in (0, 1)] for members in classes]
    found = []
    for k in range(many):
        chances = class_chances(rows, [Fraction(int(j == k)) for j in range(many)], classes)
        found.append([sum(chance * mean[side] for chance, mean in zip(chances, means)) for side in (0, 1)])
    return found


def start_mean(course, choice):
    spots = chain_means(course, choice)
    return tuple(sum(fraction(a) * spot[side] for a, spot in zip(course.start, spots)) for side in (0, 1))


def worth_in(c, point):
    return fraction(c[0]) * fraction(point[0]) + fraction(c[1]) * fraction(point[1])


def paper_fits(course, c, gains, rests):
    """The two inequalities of [48], read from the course."""
    for k in range(len(course.standings)):
        for move in course.moves(k):
            steps = [(after, fraction(chance)) for _, after, chance in course.steps(k, move)]
            if fraction(gains[k]) < sum(chance * fraction(gains[after]) for after, chance in steps):
                return False
            beyond = worth_in(c, course.pay(k, move)) + sum(chance * fraction(rests[after]) for after, chance in steps)
            if fraction(gains[k]) + fraction(rests[k]) < beyond:
                return False
    return True


def turning_course(chance, side="mine"):
    """A course whose plan moves for sure: it has closed sets that turn."""
    world = drawn_world(chance, 2, 2, chance.choice([1, 2]), signals=False)
    states = [f"q{k}" for k in range(4)]
    lines = ["state " + " ".join(states), f"start q0:1/3 q{chance.randint(1, 3)}:2/3"]
    for state in states:
        lines.append(f"play {state} * {chance.choice('cd')}:1")
        for word in ("*.c", "*.d", "c.*"):
            lines.append(f"go {state} * * {word} {chance.choice(states)}:1")
    return Course(Plan(world, "\n".join(lines), side))


class MeanCase(CheckCase):
    def check_mean(self, course, c, choices=True):
        found = greatest_mean(course, c)
        self.assertIsInstance(found, Mean)
        many = len(course.standings)
        self.assertEqual([len(found.choice), len(found.gains), len(found.rests)], [many] * 3)
        for value in (found.choice, found.gains, found.rests):
            self.assertIs(type(value), tuple)
        for ratio in (found.worth, *found.gains, *found.rests):
            self.check_ratio(ratio)
        spots = [worth_in(c, [pair(a) for a in spot]) for spot in chain_means(course, found.choice)]
        self.assertEqual(found.gains, tuple(pair(spot) for spot in spots))
        self.assertEqual(fraction(found.worth), sum(fraction(a) * spot for a, spot in zip(course.start, spots)))
        self.assertTrue(paper_fits(course, c, found.gains, found.rests))
        self.assertIs(mean_holds(course, c, found.gains, found.rests), True)
        again = greatest_mean(course, c)
        self.assertEqual(vars(again), vars(found))
        if choices:
            for choice in all_choices(course):
                for spot, best in zip(chain_means(course, choice), spots):
                    self.assertLessEqual(worth_in(c, [pair(a) for a in spot]), best)
        return found


class GreatestMeanTest(MeanCase):
    def test_against_all_choices(self):
        chance = random.Random(1)
        done = 0
        while done < 60:
            course = drawn_course(chance) if done % 2 else turning_course(chance, chance.choice(["mine", "foe"]))
            if many_choices(course) <= 64:
                done += 1
                c = (chance.randint(-2, 2), (chance.choice([-3, -1, 1, 2]), chance.randint(1, 3)))
                self.check_mean(course, c)

    def test_larger_courses(self):
        chance = random.Random(2)
        for count in range(6):
            world = drawn_world(chance, 4, 3, 2)
            course = Course(drawn_plan(chance, world, states=10))
            self.check_mean(course, (1, (-1, 3)), choices=False)

    def test_several_closed_sets(self):
        # The free side sends the plan for good into one of two states.
        text = "state s t u\nplay s * c:1\nplay t * c:1/3 d:2/3\nplay u * d:1\ngo s * * *.c t:1\ngo s * * *.d u:1/4 s:3/4\n"
        course = Course(Plan(TABLE, text))
        found = self.check_mean(course, (0, 1))
        self.assertEqual((found.worth, found.gains), ((7, 3), ((7, 3), (7, 3), (1, 1))))
        found = self.check_mean(course, (-1, 0))
        self.assertEqual(found.gains, ((-2, 3), (-2, 3), (-1, 1)))
        found = self.check_mean(course, (1, 0))
        self.assertEqual((found.worth, found.gains), ((5, 1), ((5, 1), (13, 3), (5, 1))))

    def test_rests_of_moves_that_lose_the_mean(self):
        # Going to t pays much once and little for ever.
        world = World("mine c d\nfoe c d\nboard b\npay c c 0 1\npay c d 0 100\npay d * 0 0\n")
        plan = Plan(world, "state s t\nplay s * c:1\nplay t * d:1\ngo s * * *.d t:1\n")
        found = self.check_mean(Course(plan), (0, 1))
        self.assertEqual((found.worth, found.choice[0]), ((1, 1), "c"))

    def test_rulebooks_and_letters(self):
        book = Rulebook(TABLE, "state r q\nbar q * c\ngo r * * c * q\ngo q * * * * r\n")
        course = Course(Plan(TABLE, "state s\nplay s * c:1\n"), book)
        self.assertEqual(self.check_mean(course, (-1, 1)).worth, (5, 1))
        self.assertEqual(self.check_mean(course, (1, 0)).worth, (3, 2))
        for course in LETTERED:
            for value in [(1, 0), None, (0, 0)]:
                self.check_error(HasLetter, (), greatest_mean, course, value)
                self.check_error(HasLetter, (), mean_holds, course, value, None, None)
            self.check_error(HasLetter, (), mean_of, course, None)

    def test_directions(self):
        course = Course(Plan(TABLE, ANGRY))
        for value in NO_DIRECTIONS:
            self.check_error(BadNumber, ("direction", value), greatest_mean, course, value)
            self.check_error(BadNumber, ("direction", value), mean_holds, course, value, None, None)
        self.assertEqual(vars(greatest_mean(course, ((-2, 4), (6, 8)))), vars(greatest_mean(course, ((-1, 2), (3, 4)))))
        self.assertEqual(greatest_mean(course, (0, 2)).worth, (6, 1))


class MeanOfTest(MeanCase):
    def test_means_of_choices(self):
        chance = random.Random(3)
        for count in range(80):
            course = drawn_course(chance) if count % 2 else turning_course(chance)
            choice = tuple(chance.choice(course.moves(k)) for k in range(len(course.standings)))
            found = mean_of(course, choice)
            self.assertEqual(found, tuple(pair(a) for a in start_mean(course, choice)))
            self.assertEqual(mean_of(course, list(choice)), found)
            for ratio in found:
                self.check_ratio(ratio)

    def test_wrong_choices(self):
        book = Rulebook(TABLE, "state r\nbar r * d\n")
        course = Course(Plan(TABLE, "state s t u\nstart s:1/3 t:1/3 u:1/3\nplay * * c:1\n"))
        barred = Course(Plan(TABLE, "state s t u\nstart s:1/3 t:1/3 u:1/3\nplay * * c:1\n"), book)
        for value in [None, "ccc", 1, {}, {0: "c", 1: "c", 2: "c"}]:
            self.check_error(BadChoice, (0,), mean_of, course, value)
        cases = [
            ((), 0), (("c",), 1), (["c", "d"], 2), (("c", "d", "c", "c"), 3), (("c", "x", "c"), 1), (("c", "c", None), 2), (("*", "c", "c"), 0),
            (("c", "x"), 1), (("x",), 0), (("c", "d", "c", "x"), 3), (("c", "d", "x", "c"), 2), (("c", ["c"], "c"), 1), (("c", ("c",), 1, 2), 1),
        ]
        for value, place in cases:
            self.check_error(BadChoice, (place,), mean_of, course, value)
        self.check_error(BadChoice, (1,), mean_of, barred, ("c", "d", "c"))
        self.assertEqual(mean_of(barred, ("c", "c", "c")), ((3, 1), (3, 1)))
        self.assertEqual(mean_of(course, ["d", "c", "c"]), ((2, 1), (11, 3)))


class MeanHoldsTest(MeanCase):
    def test_spoilt_papers(self):
        chance = random.Random(4)
        small = Fraction(1, 10 ** 30)
        seen = {}
        for count in range(60):
            course = drawn_course(chance) if count % 2 else turning_course(chance)
            c = (chance.randint(-2, 2), chance.choice([-1, 1, 2]))
            found = greatest_mean(course, c)
            for place in range(len(course.standings)):
                for which in ("gains", "rests"):
                    for change in (small, -small, Fraction(1, 3), Fraction(-5)):
                        paper = {"gains": list(found.gains), "rests": list(found.rests)}
                        paper[which][place] = pair(fraction(paper[which][place]) + change)
                        gains, rests = tuple(paper["gains"]), tuple(paper["rests"])
                        holds = paper_fits(course, c, gains, rests)
                        self.assertIs(mean_holds(course, c, gains, rests), holds)
                        seen[which, holds] = seen.get((which, holds), 0) + 1
        self.assertEqual(len(seen), 4, seen)

    def test_other_papers(self):
        course = Course(Plan(TABLE, ANGRY))
        great = 10 ** 400
        found = greatest_mean(course, (1, 2))
        gains = tuple(pair(fraction(gain) + great) for gain in found.gains)
        self.assertIs(mean_holds(course, (1, 2), gains, found.rests), True)
        rests = tuple(pair(fraction(rest) + Fraction(great, 7)) for rest in found.rests)
        self.assertIs(mean_holds(course, (1, 2), found.gains, rests), True)
        # Ratios in any terms, integers, and other terms of the direction.
        terms = tuple((5 * top, 5 * bottom) for top, bottom in found.gains)
        self.assertIs(mean_holds(course, ((2, 2), (4, 2)), terms, found.rests), True)
        self.assertIs(mean_holds(course, (0, 1), (5, 5), (0, 0)), True)
        self.assertIs(mean_holds(course, (0, 1), (3, 1), (0, 0)), False)
        self.assertIs(mean_holds(course, (0, 1), (3, 1), (2, 0)), True)
        self.assertIs(mean_holds(course, (0, 1), (3, 1), ((10 ** 30 - 1, 10 ** 30), 0)), False)

    def test_no_papers(self):
        course = Course(Plan(TABLE, ANGRY))
        for value in [None, 1, "55", [5, 5], (5,), (5, 5, 5), (), (5, None), (5, True), ("5", 5), (5, (1, 0)), (5, (1, -1)), (5, [1, 1]), (5, 1.0), {}, Quotient((1,)), (5, Quotient((5,)))]:
            self.assertIs(mean_holds(course, (0, 1), value, (0, 0)), False)
            self.assertIs(mean_holds(course, (0, 1), (5, 5), value if value != (5, True) else (0, False)), False)
        self.assertIs(mean_holds(course, (0, 1), (5, 5), [0, 0]), False)

    def test_by_hand(self):
        rests = [(1, 2), 3]
        found = Mean((2, 4), ["c", "d"], [1, (1, 2)], rests)
        self.assertEqual((found.worth, found.choice, found.gains, found.rests), ((2, 4), ("c", "d"), (1, (1, 2)), ((1, 2), 3)))
        rests.append(1)
        self.assertEqual(len(found.rests), 2)


if __name__ == "__main__":
    unittest.main()
