import random
import unittest
from fractions import Fraction

from everyfoe.courses import Course
from everyfoe.errors import AllBarred, BadName, BadNumber, TooLarge, Unlike
from everyfoe.plans import Plan
from everyfoe.quotients import Quotient
from everyfoe.rulebooks import Rulebook
from everyfoe.worlds import World
from tests.helper import CheckCase, fraction, pair
from tests.making import drawn_plan, drawn_rulebook, drawn_world

TABLE = World("mine c d\nfoe c d\nboard b\npay c c 3 3\npay c d 0 5\npay d c 5 0\npay d d 1 1\n")
OTHER = World(TABLE.text + "pay d d 1 2\n")
ANGRY = "state nice angry\nplay nice * c:1\nplay angry * d:1\ngo nice * * *.d angry:1\n"
E = (Fraction(2, 7), Fraction(3, 5))


def number(amount, e):
    """The value of a ratio or a Quotient."""
    return Fraction(*amount.at(pair(e))) if isinstance(amount, Quotient) else fraction(amount)


def outcomes(course, standing, free, e):
    """The chances of the pairs of a move and a next standing, one draw after
    another."""
    plan, world, book = course.plan, course.world, course.rulebook
    board, state = standing[:2]
    found = {}
    for own, a in plan.play(state, board):
        mine, foe = (own, free) if plan.side == "mine" else (free, own)
        for signal, b in world.signals(board, mine, foe):
            for goal, c in world.going(board, mine, foe):
                for name, d in plan.after(state, board, own, signal):
                    after = (goal, name)
                    if book:
                        after += (book.after(standing[2], board, mine, foe, signal),)
                    share = number(a, e) * number(b, e) * number(c, e) * number(d, e)
                    found[own, after] = found.get((own, after), 0) + share
    return found


def let(course, standing):
    if course.rulebook:
        return course.rulebook.allowed(standing[2], standing[0])
    return course.world.foe if course.plan.side == "mine" else course.world.mine


def first_ones(course):
    rules = course.rulebook.states[:1] if course.rulebook else ()
    return {(course.world.boards[0], state, *rules): chance for state, chance in course.plan.start}


def all_reached(course):
    found = set(first_ones(course))
    waiting = list(found)
    while waiting:
        standing = waiting.pop()
        for free in let(course, standing):
            for _, after in outcomes(course, standing, free, E[0]):
                if after not in found:
                    found.add(after)
                    waiting.append(after)
    rules = course.rulebook.states if course.rulebook else ("",)
    places = [course.world.boards, course.plan.states, rules]
    return sorted(found, key=lambda s: [names.index(word) for names, word in zip(places, s)])


def drawn_course(chance, letter=False, **named):
    """A course of some world, plan and, now and then, rulebook."""
    world = drawn_world(chance, chance.randint(1, 3), chance.randint(1, 3), chance.randint(1, 2), letter=letter and chance.random() < 0.5, **named)
    side = chance.choice(["mine", "foe"])
    plan = drawn_plan(chance, world, side, chance.randint(1, 3), letter)
    other = "foe" if side == "mine" else "mine"
    return Course(plan, drawn_rulebook(chance, world, other) if chance.random() < 0.4 else None)


class CourseTest(CheckCase):
    def check_amount(self, amount, lettered):
        if lettered:
            self.assertIsInstance(amount, Quotient)
        else:
            self.check_ratio(amount)

    def check_course(self, course):
        lettered = course.world.lettered or course.plan.lettered
        self.assertIs(course.lettered, lettered)
        self.assertEqual(course.side, "foe" if course.plan.side == "mine" else "mine")
        self.assertIs(course.world, course.plan.world)
        self.assertEqual(list(course.standings), all_reached(course))
        self.assertIs(type(course.standings), tuple)
        first = first_ones(course)
        self.assertEqual(len(course.start), len(course.standings))
        for standing, amount in zip(course.standings, course.start):
            self.check_amount(amount, lettered)
            self.assertEqual(number(amount, E[0]), number(first.get(standing, 0), E[0]))
        for k, standing in enumerate(course.standings):
            self.assertEqual(course.moves(k), let(course, standing))
            for free in course.moves(k):
                self.check_steps(course, k, free, lettered)

    def check_steps(self, course, k, free, lettered):
        steps = course.steps(k, free)
        self.assertEqual(steps, course.steps(k, free))
        self.assertIs(type(steps), tuple)
        moves = course.world.mine if course.plan.side == "mine" else course.world.foe
        places = [(moves.index(own), after) for own, after, _ in steps]
        self.assertEqual(places, sorted(set(places)))
        pays = course.pay(k, free)
        self.assertEqual(pays, course.pay(k, free))
        for amount in [chance for _, _, chance in steps] + list(pays):
            self.check_amount(amount, lettered)
        for e in E:
            found = {(own, course.standings[after]): number(chance, e) for own, after, chance in steps}
            self.assertEqual(found, outcomes(course, course.standings[k], free, e))
            self.assertEqual(sum(found.values()), 1)
            expected = [Fraction(0), Fraction(0)]
            board = course.standings[k][0]
            for own, chance in course.plan.play(course.standings[k][1], board):
                told = course.world.pay(board, *((own, free) if course.side == "foe" else (free, own)))
                for side in (0, 1):
                    expected[side] += number(chance, e) * fraction(told[side])
            self.assertEqual([number(amount, e) for amount in pays], expected)

    def test_drawn_courses(self):
        chance = random.Random(1)
        seen = set()
        for count in range(120):
            course = drawn_course(chance, count % 2 == 1)
            self.check_course(course)
            seen.add((course.lettered, course.side, course.rulebook is not None, len(course.world.boards)))
        self.assertEqual(len(seen), 16)

    def test_a_course(self):
        course = Course(Plan(TABLE, ANGRY))
        self.assertIsNone(course.rulebook)
        self.assertEqual(course.standings, (("b", "nice"), ("b", "angry")))
        self.assertEqual(course.start, ((1, 1), (0, 1)))
        self.assertEqual(course.moves(0), ("c", "d"))
        self.assertEqual(course.steps(0, "c"), (("c", 0, (1, 1)),))
        self.assertEqual(course.steps(0, "d"), (("c", 1, (1, 1)),))
        self.assertEqual(course.pay(1, "c"), ((5, 1), (0, 1)))

    def test_rulebooks(self):
        book = Rulebook(TABLE, "state r q\nbar q * c\nbar r * d\ngo r * * * *.c q\n")
        course = Course(Plan(TABLE, ANGRY), book)
        self.assertIs(course.rulebook, book)
        # Where d is barred, nothing makes the plan angry but the second state.
        self.assertEqual(course.standings, (("b", "nice", "r"), ("b", "nice", "q"), ("b", "angry", "q")))
        self.assertEqual([course.moves(k) for k in range(3)], [("c",), ("d",), ("d",)])
        self.assertEqual(Course(Plan(TABLE, ANGRY), rulebook=book).standings, course.standings)

    def test_errors(self):
        plan = Plan(TABLE, ANGRY)
        mine = Rulebook(TABLE, "state r\nbar * * *\n", "mine")
        foe = Rulebook(TABLE, "state r\nbar * * *\n")
        far = Rulebook(OTHER, "state r\nbar * * *\n")
        far_mine = Rulebook(OTHER, "state r\nbar * * *\n", "mine")
        self.check_error(Unlike, ("side",), Course, plan, mine)
        self.check_error(Unlike, ("side",), Course, plan, far_mine)
        self.check_error(Unlike, ("side",), Course, Plan(TABLE, ANGRY, "foe"), foe)
        self.check_error(Unlike, ("world",), Course, plan, far)
        self.check_error(AllBarred, (("b", "nice", "r"),), Course, plan, foe)
        self.check_error(AllBarred, (("b", "nice", "r"),), Course, Plan(TABLE, ANGRY, "foe"), mine)
        again = World(TABLE.text)
        Course(plan, Rulebook(again, "state r"))

    def test_the_first_standing_that_is_barred(self):
        text = "state s t u\nstart t:1/2 u:1/2\nplay * * c:1\n"
        plan = Plan(TABLE, text)
        book = "state r q\nbar q * *\ngo r * * d * q\n"
        self.check_error(AllBarred, (("b", "t", "q"),), Course, plan, Rulebook(TABLE, book))
        turned = Plan(TABLE, text.replace("s t u", "s u t"))
        self.check_error(AllBarred, (("b", "u", "q"),), Course, turned, Rulebook(TABLE, book))
        more = Plan(TABLE, text + "go u * * *.c s:1\n")
        self.check_error(AllBarred, (("b", "s", "q"),), Course, more, Rulebook(TABLE, book))
        # What is not reached may be barred.
        self.assertEqual(len(Course(more, Rulebook(TABLE, book + "bar r * d")).standings), 3)
        world = World("mine c d\nfoe c d\nboard b\npay * * 0 0\nsignal * * u:e v:1-e\ngo * d o:1\nboard o\npay * * 1 1\n")
        letter = Plan(world, "state s\nplay s * c:e d:1-e\n")
        self.check_error(AllBarred, (("o", "s", "r"),), Course, letter, Rulebook(world, "state r q\nbar q * *\nbar r o *\ngo r * * c v q\nbar r b c"))
        self.check_error(AllBarred, (("b", "s", "q"),), Course, letter, Rulebook(world, "state r q\nbar q * *\nbar r o *\ngo r * * c v q"))

    def test_arguments(self):
        book = Rulebook(TABLE, "state r\nbar * * d\n")
        course = Course(Plan(TABLE, ANGRY), book)
        self.assertEqual(len(course.standings), 1)
        for value in [-1, 1, 10 ** 400, None, "0", True, False, (0, 1), [0]]:
            self.check_error(BadNumber, ("standing", value), course.moves, value)
            self.check_error(BadNumber, ("standing", value), course.steps, value, "x")
            self.check_error(BadNumber, ("standing", value), course.pay, value, None)
        for value in ["d", "x", "", "*", None, 1, ["c"], ("c",), {}]:
            self.check_error(BadName, (value,), course.steps, 0, value)
            self.check_error(BadName, (value,), course.pay, 0, value)

    def test_settled(self):
        chance = random.Random(2)
        for count in range(40):
            course = drawn_course(chance, True)
            for e in E:
                found = course.settled(pair(e))
                self.assertEqual((found.standings, found.side), (course.standings, course.side))
                self.assertIs(found.lettered, False)
                self.assertEqual(found.plan.text, course.plan.settled(pair(e)).text)
                self.assertEqual(found.rulebook is None, course.rulebook is None)
                for k in range(len(course.standings)):
                    self.assertEqual(found.moves(k), course.moves(k))
                    self.assertEqual(fraction(found.start[k]), number(course.start[k], e))
                    for move in course.moves(k):
                        steps = [(own, after, pair(number(part, e))) for own, after, part in course.steps(k, move)]
                        self.assertEqual(list(found.steps(k, move)), steps)
                        self.assertEqual(found.pay(k, move), tuple(pair(number(amount, e)) for amount in course.pay(k, move)))
        for value in [0, 1, (3, 2), -1, None, "1/2", True]:
            self.check_error(BadNumber, ("e", value), course.settled, value)
        letter = Course(Plan(TABLE, "state s\nplay s * c:e^2 d:1-e^2\n"))
        self.check_error(TooLarge, ("digits", 4201, 4000), letter.settled, (1, 10 ** 2100))
        self.assertEqual(letter.settled((2, 4)).pay(0, "c"), ((9, 2), (3, 4)))


if __name__ == "__main__":
    unittest.main()
