import random
import unittest
from fractions import Fraction

from everyfoe.courses import Course
from everyfoe.errors import BadName, HasLetter
from everyfoe.events import Always, Chance, Number, greatest_chance, greatest_number
from everyfoe.plans import Plan
from everyfoe.rulebooks import Rulebook
from everyfoe.worlds import World
from tests.helper import CheckCase, fraction, pair
from tests.making import drawn_plan, drawn_world
from tests.test_courses import ANGRY, TABLE, drawn_course
from tests.test_means import LETTERED, all_choices, many_choices
from tests.test_meetings import class_chances, closed_sets, solve, stationary


def is_of(event, board, mine, foe):
    return any(all(a in ("*", b) for a, b in zip(mark, (board, mine, foe))) for mark in event)


def parts_of(course, choice, event):
    """The chance of a round of the event at each standing, the chances of the
    next standings without one, and those with one."""
    many = len(choice)
    hits, misses, all_rows = [Fraction(0)] * many, [], []
    for k, move in enumerate(choice):
        miss, whole = [Fraction(0)] * many, [Fraction(0)] * many
        for own, after, chance in course.steps(k, move):
            moves = (own, move) if course.side == "foe" else (move, own)
            whole[after] += fraction(chance)
            if is_of(event, course.standings[k][0], *moves):
                hits[k] += fraction(chance)
            else:
                miss[after] += fraction(chance)
        misses.append(miss)
        all_rows.append(whole)
    return hits, misses, all_rows


def sums(hits, rows):
    """The least sums from 0 on, of standings that can come to a hit."""
    many = len(rows)
    can = [hit > 0 for hit in hits]
    for _ in range(many):
        can = [can[k] or any(rows[k][j] and can[j] for j in range(many)) for k in range(many)]
    inner = [k for k in range(many) if can[k]]
    found = [Fraction(0)] * many
    if inner:
        lines = [[int(i == j) - rows[i][j] for j in inner] for i in inner]
        for k, number in zip(inner, solve(lines, [hits[k] for k in inner])):
            found[k] = number
    return found


def chance_spots(course, choice, event):
    hits, misses, _ = parts_of(course, choice, event)
    return sums(hits, misses)


def number_mean(course, choice, event):
    """The mean number of rounds of the event in a round, from the start."""
    hits, _, rows = parts_of(course, choice, event)
    classes = closed_sets(rows)
    start = [fraction(a) for a in course.start]
    means = [sum(share * hits[k] for share, k in zip(stationary(rows, members), members)) for members in classes]
    return sum(a * b for a, b in zip(class_chances(rows, start, classes), means))


def number_spots(course, choice, event):
    hits, _, rows = parts_of(course, choice, event)
    return sums(hits, rows)


def drawn_event(chance, world):
    marks = []
    for _ in range(chance.randint(1, 3)):
        marks.append(tuple(chance.choice([*names, "*"]) for names in (world.boards, world.mine, world.foe)))
    return marks + marks[:chance.randint(0, 1)]


def ending_course(chance, side="mine"):
    """A course that comes to an end: to a state, or a board, of its own."""
    world = drawn_world(chance, 2, 2, 1, signals=chance.random() < 0.5)
    states = [f"q{k}" for k in range(4)]
    lines = ["state " + " ".join(states), "play * * c:1"]
    for k, state in enumerate(states[:3]):
        lines.append(f"play {state} * " + chance.choice(["c:1", "d:1", "c:1/3 d:2/3"]))
        for word in ("*", "*.d", "c.*"):
            here, there = chance.choice(states[:k + 2]), chance.choice(states[k + 1:])
            lines.append(f"go {state} * * {word} " + (f"{here}:1/3 {there}:2/3" if here != there else f"{there}:1"))
    plan = Plan(world, "\n".join(lines), side)
    book = Rulebook(world, "state r\nbar r * d\n", "foe" if side == "mine" else "mine") if chance.random() < 0.3 else None
    return Course(plan, book)


class EventCase(CheckCase):
    def check_found(self, course, found, kind, spots_of, event):
        self.assertIsInstance(found, kind)
        spots = spots_of(course, found.choice, event)
        self.assertEqual((type(found.choice), type(found.spots)), (tuple, tuple))
        self.assertEqual(found.spots, tuple(pair(spot) for spot in spots))
        self.assertEqual(found.number, pair(sum(fraction(a) * spot for a, spot in zip(course.start, spots))))
        return spots

    def check_event(self, course, event):
        """Both questions, against all choices."""
        choices = list(all_choices(course))
        given = list(event)
        found = greatest_chance(course, event)
        spots = self.check_found(course, found, Chance, chance_spots, event)
        for choice in choices:
            for spot, best in zip(chance_spots(course, choice, event), spots):
                self.assertLessEqual(spot, best)
        self.assertEqual(vars(greatest_chance(course, tuple(event))), vars(found))
        number = greatest_number(course, event)
        means = [number_mean(course, choice, event) for choice in choices]
        if max(means) > 0:
            self.assertIsInstance(number, Always)
            self.assertEqual(number.mean, pair(number_mean(course, number.choice, event)))
            self.assertGreater(number.mean[0], 0)
            self.assertIs(type(number.choice), tuple)
        else:
            spots = self.check_found(course, number, Number, number_spots, event)
            for choice in choices:
                for spot, best in zip(number_spots(course, choice, event), spots):
                    self.assertLessEqual(spot, best)
        self.assertEqual(vars(greatest_number(course, tuple(event))), vars(number))
        self.assertEqual(list(event), given)
        return found, number


class EventTest(EventCase):
    def test_against_all_choices(self):
        chance = random.Random(1)
        kinds = {}
        done = 0
        while done < 140:
            course = drawn_course(chance) if done % 2 else ending_course(chance, chance.choice(["mine", "foe"]))
            if many_choices(course) <= 64:
                done += 1
                found, number = self.check_event(course, drawn_event(chance, course.world))
                key = (type(number).__name__, found.number == (1, 1), number.number[0] > 0 if isinstance(number, Number) else None)
                kinds[key] = kinds.get(key, 0) + 1
        self.assertTrue({("Number", False, True), ("Number", False, False), ("Number", True, True), ("Always", True, None), ("Always", False, None)} <= set(kinds), kinds)

    def test_once(self):
        course = Course(Plan(TABLE, ANGRY))
        event = [("b", "c", "d")]
        found, number = self.check_event(course, event)
        self.assertEqual((found.number, found.spots, found.choice[0]), ((1, 1), ((1, 1), (0, 1)), "d"))
        self.assertEqual((number.number, number.spots), ((1, 1), ((1, 1), (0, 1))))
        found, number = self.check_event(course, [("b", "d", "*")])
        self.assertEqual((found.number, type(number)), ((1, 1), Always))
        self.assertEqual(number.mean, (1, 1))
        # A course that waits for good never comes to the event.
        patient = Course(Plan(TABLE, "state s\nplay s * c:1\n"))
        found, number = self.check_event(patient, [("*", "d", "*")])
        self.assertEqual((found.number, number.number), ((0, 1), (0, 1)))

    def test_chances_along_the_way(self):
        # Each round at s the plan slips with chance 1/3, then all is over.
        text = "state s t\nplay s * c:2/3 d:1/3\nplay t * c:1\ngo s * d * t:1\n"
        course = Course(Plan(TABLE, text))
        found, number = self.check_event(course, [("*", "d", "d")])
        self.assertEqual((found.number, number.number), ((1, 1), (1, 1)))
        both = [("*", "d", "*"), ("b", "d", "c"), ("*", "d", "*")]
        self.assertEqual(self.check_event(course, both)[1].number, (1, 1))
        leaving = Plan(TABLE, text + "go s * c *.d t:1\n")
        found, number = self.check_event(Course(leaving), [("b", "c", "c")])
        self.assertEqual((found.number, type(number)), ((1, 1), Always))
        book = Rulebook(TABLE, "state r q\nbar q * c\ngo r * * * * q\n")
        found, number = self.check_event(Course(leaving, book), [("b", "c", "c")])
        self.assertEqual((found.number, number.number), ((2, 3), (2, 3)))
        found, number = self.check_event(Course(leaving, book), [("b", "d", "c"), ("b", "c", "c")])
        self.assertEqual((found.number, number.number), ((1, 1), (1, 1)))
        found, number = self.check_event(Course(leaving, book), [("b", "d", "*")])
        self.assertEqual((found.number, number.number), ((5, 9), (5, 9)))

    def test_boards(self):
        world = World("mine c\nfoe c d\nboard b\npay * * 0 0\ngo * c o:1/2 b:1/2\nboard o\npay * * 1 1\n")
        course = Course(Plan(world, "state s\nplay s * c:1\n"))
        found, number = self.check_event(course, [("b", "*", "c")])
        self.assertEqual((found.number, number.number, number.spots), ((1, 1), (2, 1), ((2, 1), (0, 1))))
        found, number = self.check_event(course, [("o", "*", "*")])
        self.assertEqual((found.number, type(number)), ((1, 1), Always))
        self.check_event(course, [("b", "c", "c"), ("o", "c", "d")])

    def test_larger_courses(self):
        chance = random.Random(3)
        for _ in range(4):
            world = drawn_world(chance, 3, 3, 2)
            course = Course(drawn_plan(chance, world, states=8))
            event = drawn_event(chance, world)
            found = greatest_chance(course, event)
            spots = self.check_found(course, found, Chance, chance_spots, event)
            for k in range(len(course.standings)):
                for move in course.moves(k):
                    hits, misses, _ = parts_of(course, found.choice[:k] + (move,) + found.choice[k + 1:], event)
                    self.assertGreaterEqual(spots[k], hits[k] + sum(a * b for a, b in zip(misses[k], spots)))

    def test_wrong_events(self):
        courses = [Course(Plan(TABLE, ANGRY)), Course(Plan(TABLE, ANGRY, "foe"))]
        wrong = [
            None, 1, "b c d", [], (), {}, {("b", "c", "d"): 1}, ["bcd"], [["b", "c", "d"]], [("b", "c")], [("b", "c", "d", "c")],
            [("b", "c", 1)], [("b", None, "c")], [("x", "c", "c"), ("b", "c", 1)], ("b", "c", "d"), [("b", "c", ("c",))], [("b", "c", "c"), None],
        ]
        marks = [("x", "c", "c"), ("b", "x", "c"), ("b", "c", "x"), ("", "c", "c"), ("b", "**", "c"), ("c", "c", "b"), ("*", "*", "b"), ("nice", "c", "c")]
        for course in courses:
            for call in (greatest_chance, greatest_number):
                for value in wrong:
                    self.check_error(BadName, (value,), call, course, value)
                for mark in marks:
                    self.check_error(BadName, (mark,), call, course, [mark])
                    self.check_error(BadName, (mark,), call, course, (("b", "*", "d"), mark, ("y", "y", "y")))
        for course in LETTERED:
            for value in (None, [("b", "c", "c")], [("x", "c", "c")]):
                self.check_error(HasLetter, (), greatest_chance, course, value)
                self.check_error(HasLetter, (), greatest_number, course, value)

    def test_by_hand(self):
        for kind in (Chance, Number):
            found = kind((2, 4), ["c"], [(2, 4), 1])
            self.assertEqual((found.number, found.choice, found.spots), ((2, 4), ("c",), ((2, 4), 1)))
        found = Always(["c", "d"], 1)
        self.assertEqual((found.choice, found.mean), (("c", "d"), 1))


if __name__ == "__main__":
    unittest.main()
