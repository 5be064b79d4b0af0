import random
import unittest
from fractions import Fraction

from everyfoe.alike import Alike, Parting, alike, alike_in_pay
from everyfoe.builders import least, mixed
from everyfoe.courses import Course
from everyfoe.errors import BadNumber, HasLetter, Unlike
from everyfoe.plans import Plan
from everyfoe.polygons import polygon
from everyfoe.solving import rank
from everyfoe.worlds import World
from tests.helper import CheckCase, fraction, pair
from tests.making import drawn_plan, drawn_world

WORLD = World("mine c d\nfoe c\nboard b\npay c c 1 0\npay d c 0 1\n")
COIN = Plan(WORLD, "state a\nplay * * c:1/2 d:1/2\n")


def letters(world, board, side):
    """The possible letters on a board."""
    found = []
    for mine in world.mine:
        for foe in world.foe:
            own, free = (mine, foe) if side == "mine" else (foe, mine)
            for signal, _ in world.signals(board, mine, foe):
                for goal, _ in world.going(board, mine, foe):
                    found.append((own, free, signal, goal))
    return found


def words(world, side, most):
    """All possible words of at most so many letters."""
    level = [((), world.boards[0])]
    found = [()]
    for _ in range(most):
        level = [((*word, letter), letter[3]) for word, board in level for letter in letters(world, board, side)]
        found += [word for word, _ in level]
    return found


def step(plan, shares, board, own, signal):
    """The shares of the states behind a move and a signal."""
    after = {}
    for state, share in shares.items():
        chance = fraction(dict(plan.play(state, board)).get(own, 0))
        if share * chance:
            for name, part in plan.after(state, board, own, signal):
                after[name] = after.get(name, 0) + share * chance * fraction(part)
    return after


def chance_of(plan, word):
    shares = {state: fraction(chance) for state, chance in plan.start}
    board = plan.world.boards[0]
    for own, _, signal, goal in word:
        shares = step(plan, shares, board, own, signal)
        board = goal
    return sum(shares.values())


def pay_of(plan, word, c):
    """The expected pay of the last round of a row of free moves."""
    course = Course(plan)
    shares = [fraction(chance) for chance in course.start]
    for free in word[:-1]:
        after = [0] * len(shares)
        for k, share in enumerate(shares):
            for _, j, chance in course.steps(k, free):
                after[j] += share * fraction(chance)
        shares = after
    total = 0
    for k, share in enumerate(shares):
        total += share * sum(fraction(one) * fraction(other) for one, other in zip(c, course.pay(k, word[-1])))
    return total


def turned_once(chance, plan):
    """The plan with one chance of its text turned, or one next state."""
    rows = plan.text.split("\n")[:-1]
    at = chance.randrange(1, len(rows))
    parts = rows[at].split(" ")
    first = {"start": 1, "play": 3, "go": 5}[parts[0]]
    moves = plan.world.mine if plan.side == "mine" else plan.world.foe
    names = moves if parts[0] == "play" else plan.states
    rows[at] = " ".join(parts[:first] + [chance.choice(names) + ":1"])
    return Plan(plan.world, "\n".join(rows) + "\n", plan.side)


def counter(many, last):
    """A plan that plays the other way in one round of so many, or never."""
    lines = ["state " + " ".join(f"q{k}" for k in range(many)), "play * * c:1/2 d:1/2"]
    lines += [f"go q{k} * * * q{(k + 1) % many}:1" for k in range(many)]
    if last:
        lines.append(f"play q{many - 1} * c:1/3 d:2/3")
    return Plan(WORLD, "\n".join(lines) + "\n")


class AlikeTest(CheckCase):
    def in_span(self, rows, row):
        if not any(row):
            return True
        return len(rows) > 0 and rank([*rows, [pair(item) for item in row]]) == len(rows)

    def check_rows(self, rows, many):
        self.assertIs(type(rows), tuple)
        for row in rows:
            self.assertIs(type(row), tuple)
            self.assertEqual(len(row), many)
            for item in row:
                self.check_ratio(item)
        if rows:
            self.assertEqual(rank(rows), len(rows))

    def check_family(self, plan, other, rows):
        world = plan.world
        many = len(plan.states)
        self.assertIs(type(rows), tuple)
        self.assertEqual(len(rows), len(world.boards))
        table = dict(zip(world.boards, rows))
        first = []
        for each, sign in ((plan, 1), (other, -1)):
            chances = dict(each.start)
            first += [sign * fraction(chances.get(state, 0)) for state in each.states]
        self.assertTrue(self.in_span(table[world.boards[0]], first))
        for board in world.boards:
            self.check_rows(table[board], many + len(other.states))
            for row in table[board]:
                self.assertEqual(sum(map(fraction, row)), 0)
                for own, _, signal, goal in sorted(set(letters(world, board, plan.side))):
                    after = []
                    for each, part in ((plan, row[:many]), (other, row[many:])):
                        shares = step(each, dict(zip(each.states, map(fraction, part))), board, own, signal)
                        after += [shares.get(state, Fraction(0)) for state in each.states]
                    self.assertTrue(self.in_span(table[goal], after))

    def check_answer(self, plan, other):
        found = alike(plan, other)
        if isinstance(found, Alike):
            self.check_family(plan, other, found.rows)
            for word in words(plan.world, plan.side, 2):
                self.assertEqual(chance_of(plan, word), chance_of(other, word))
            return None
        self.assertIsInstance(found, Parting)
        self.assertIs(type(found.word), tuple)
        board = plan.world.boards[0]
        for letter in found.word:
            self.assertIn(letter, letters(plan.world, board, plan.side))
            board = letter[3]
        one, other_chance = chance_of(plan, found.word), chance_of(other, found.word)
        self.assertNotEqual(one, other_chance)
        self.assertEqual(found.chances, (pair(one), pair(other_chance)))
        if len(found.word) < 4:
            for word in words(plan.world, plan.side, len(found.word) - 1):
                self.assertEqual(chance_of(plan, word), chance_of(other, word))
        return len(found.word)

    def test_drawn_pairs(self):
        chance = random.Random(1)
        kinds = []
        for _ in range(120):
            world = drawn_world(chance, chance.randint(1, 2), chance.randint(1, 2), chance.randint(1, 2))
            side = chance.choice(("mine", "foe"))
            plan = drawn_plan(chance, world, side, chance.randint(1, 3))
            other = drawn_plan(chance, world, side, chance.randint(1, 3))
            if chance.random() < 0.8:
                other = turned_once(chance, plan)
            kinds.append(self.check_answer(plan, other))
        for kind in (None, 1, 2):
            self.assertIn(kind, kinds)

    def test_plans_without_states_that_are_alike(self):
        """One state of the first plan is a mixture of two of the second one,
        and both go on by what was played."""
        lines = ["go h * c * c1:1\ngo t * c * c1:1\ngo h * d * d1:1\ngo t * d * d1:1\n", "play c1 * c:1\nplay d1 * d:1\n"]
        one = Plan(WORLD, "state m c1 d1\nplay m * c:1/2 d:1/2\ngo m * c * c1:1\ngo m * d * d1:1\n" + lines[1])
        both = "state h t c1 d1\nstart h:1/2 t:1/2\nplay h * c:3/4 d:1/4\nplay t * c:1/4 d:3/4\n"
        other = Plan(WORLD, both + lines[0] + lines[1])
        self.assertIsNone(self.check_answer(one, other))
        self.assertEqual(polygon(Course(one)).corners, polygon(Course(other)).corners)
        swapped = Plan(WORLD, both.replace("3/4 d:1/4", "2/4 d:2/4") + lines[0] + lines[1])
        self.assertEqual(self.check_answer(one, swapped), 1)

    def test_long_weights(self):
        """The same with weights of more and more digits."""
        rest = "go * * c * c1:1\ngo * * d * d1:1\nplay c1 * c:1\nplay d1 * d:1\ngo c1 * * * c1:1\ngo d1 * * * d1:1\n"
        one = Plan(WORLD, "state m c1 d1\nplay m * c:1/2 d:1/2\n" + rest)
        for digits in (3, 15, 50, 200, 700):
            bottom = 10**digits + 7
            share = Fraction(bottom // 3, bottom)
            words_told = []
            for first in (Fraction(1, 2) + (1 - share) / 4, Fraction(1, 2) - share / 4):
                words_told.append(f"c:{first} d:{1 - first}")
            text = f"state h t c1 d1\nstart h:{share} t:{1 - share}\nplay h * {words_told[0]}\nplay t * {words_told[1]}\n"
            self.assertIsNone(self.check_answer(one, Plan(WORLD, text + rest)))
            off = text.replace(f"start h:{share} t:{1 - share}", f"start h:{1 - share} t:{share}")
            self.assertEqual(self.check_answer(one, Plan(WORLD, off + rest)), 1)
            self.assertIsNone(self.check_pays(one, Plan(WORLD, text + rest), (1, 0)))

    def test_many_states(self):
        chance = random.Random(4)
        world = drawn_world(chance, 2, 2, 2)
        plan = drawn_plan(chance, world, "mine", 24, most=24)
        lines = plan.text.split("\n")
        states = list(plan.states)
        chance.shuffle(states)
        if not lines[1].startswith("start"):
            lines.insert(1, f"start {plan.states[0]}:1")
        other = Plan(world, "\n".join(["state " + " ".join(states), *lines[1:]]))
        self.check_family(plan, other, alike(plan, other).rows)
        self.check_family(plan, plan, alike(plan, plan).rows)

    def test_built_plans_are_alike(self):
        chance = random.Random(2)
        for _ in range(25):
            world = drawn_world(chance, 2, 2, chance.randint(1, 2))
            side = chance.choice(("mine", "foe"))
            plan = drawn_plan(chance, world, side, chance.randint(1, 4))
            smaller = least(world, plan).plan
            self.assertIsNone(self.check_answer(plan, smaller))
            twice = mixed(world, [plan, smaller], [(1, 3), (2, 3)])
            self.assertIsNone(self.check_answer(twice, plan))
            self.assertEqual(polygon(Course(twice)).corners, polygon(Course(smaller)).corners)

    def test_counters_that_part_at_the_last_letter(self):
        for many in (1, 2, 7, 24):
            self.assertEqual(self.check_answer(counter(many, False), counter(many, True)), many)
        self.assertEqual(self.check_answer(counter(5, True), counter(7, True)), 5)
        self.assertIsNone(self.check_answer(counter(5, False), counter(7, False)))

    def test_layers_that_part_at_the_last_one(self):
        """Each layer goes on to all states of the next one by drawn chances;
        one state of the last layer plays another way."""
        chance = random.Random(5)
        world = World("mine c d\nfoe c d\nboard a\npay * * 1 0\ngo * c b:1\nboard b\npay * * 0 1\ngo c * a:1/3 b:2/3\n")
        for layers, width, size in ((12, 2, 9), (8, 3, 10**5), (4, 6, 9), (2, 12, 10**5)):
            plans = []
            for odd in (False, False, True):
                names = [[f"l{k}x{j}" for j in range(width)] for k in range(layers)]
                lines = ["state " + " ".join(sum(names, [])), "start " + self.shared_out(chance, names[0], size)]
                for k, row in enumerate(names):
                    for name in row:
                        lines.append(f"play {name} * c:1/3 d:2/3")
                        for move in "cd":
                            after = self.shared_out(chance, names[(k + 1) % layers], size)
                            lines.append(f"go {name} * * *.{move} {after}")
                if odd:
                    lines.append(f"play {names[-1][0]} b c:1/4 d:3/4")
                plans.append(Plan(world, "\n".join(lines) + "\n"))
            self.assertEqual(self.check_answer(plans[0], plans[2]), layers)
            self.assertIsInstance(alike(plans[0], plans[1]), Alike)

    def shared_out(self, chance, names, size):
        """Words NAME:CHANCE for all of the names."""
        parts = [chance.randint(1, size) for _ in names]
        return " ".join(f"{name}:{Fraction(part, sum(parts))}" for name, part in zip(names, parts))

    def test_a_chance_that_never_matters(self):
        text = "state a b\nplay a * c:1\nplay b * d:1\ngo a * d * b:1\n"
        self.assertIsNone(self.check_answer(Plan(WORLD, text), Plan(WORLD, text.replace("b:1", "a:1"))))
        self.assertIsNone(self.check_answer(Plan(WORLD, text), Plan(WORLD, text.replace("d:1\ng", "c:1\ng"))))
        self.assertEqual(self.check_answer(Plan(WORLD, text), Plan(WORLD, text + "start b:1\n")), 1)

    def test_boards_that_are_not_come_to(self):
        world = World("mine c\nfoe c d\nboard a\npay * * 0 0\ngo * d b:1\nboard b\npay * * 1 1\nboard z\npay * * 2 2\n")
        plan = Plan(world, "state a\nplay * * c:1/2 d:1/2\n", "foe")
        other = Plan(world, "state x y\nplay * * c:1/2 d:1/2\ngo * * * * y:1\nplay * z c:1\n", "foe")
        found = alike(plan, other)
        self.check_family(plan, other, found.rows)
        self.assertEqual(len(found.rows), 3)
        self.assertEqual(found.rows[2], ())
        self.assertEqual(self.check_answer(plan, Plan(world, plan.text + "play * b d:1\n", "foe")), 2)

    def test_signals_that_cannot_be_given(self):
        world = World("mine c d\nfoe c\nboard b\npay * * 0 0\nsignal c c x:1\nsignal c c y:1\n")
        text = "state a b\nplay a * c:1/2 d:1/2\nplay b * d:1\ngo a * * x b:1\n"
        self.assertIsNone(self.check_answer(Plan(world, text), Plan(world, text.replace(" b:1", " a:1"))))
        later = text.replace("* x", "* y")
        self.assertEqual(self.check_answer(Plan(world, text), Plan(world, later)), 2)

    def test_alike_in_pay(self):
        chance = random.Random(3)
        kinds = []
        for _ in range(120):
            world = drawn_world(chance, 2, chance.randint(1, 2), chance.randint(1, 2), pays=1)
            side = chance.choice(("mine", "foe"))
            plan = drawn_plan(chance, world, side, chance.randint(1, 3))
            other = turned_once(chance, plan) if chance.random() < 0.8 else drawn_plan(chance, world, side, 2)
            c = chance.choice(((1, 0), (0, 1), (1, (-1, 2)), (2, 3)))
            kinds.append(self.check_pays(plan, other, c))
            if isinstance(alike(plan, other), Alike):
                self.assertIsNone(kinds[-1])
        for kind in (None, 1, 2):
            self.assertIn(kind, kinds)

    def check_pays(self, plan, other, c):
        found = alike_in_pay(plan, other, c)
        courses = (Course(plan), Course(other))
        moves = courses[0].moves(0)
        if isinstance(found, Parting):
            self.assertTrue(set(found.word) <= set(moves))
            one, other_pay = pay_of(plan, found.word, c), pay_of(other, found.word, c)
            self.assertNotEqual(one, other_pay)
            self.assertEqual(found.chances, (pair(one), pair(other_pay)))
            rows = [()]
            for _ in range(min(len(found.word), 4) - 1):
                rows = [(*row, move) for row in rows for move in moves]
                for row in rows:
                    self.assertEqual(pay_of(plan, row, c), pay_of(other, row, c))
            return len(found.word)
        self.assertIsInstance(found, Alike)
        many = len(courses[0].standings)
        self.check_rows(found.rows, many + len(courses[1].standings))
        first = [fraction(part) for part in courses[0].start] + [-fraction(part) for part in courses[1].start]
        self.assertTrue(self.in_span(found.rows, first))
        for row in found.rows:
            for free in moves:
                after = []
                pay = 0
                for course, part in zip(courses, (row[:many], row[many:])):
                    shares = [Fraction(0)] * len(part)
                    for k, item in enumerate(map(fraction, part)):
                        for _, j, share in course.steps(k, free):
                            shares[j] += item * fraction(share)
                        pay += item * sum(fraction(x) * fraction(y) for x, y in zip(c, course.pay(k, free)))
                    after += shares
                self.assertEqual(pay, 0)
                self.assertTrue(self.in_span(found.rows, after))
        return None

    def test_a_coin_against_plans_that_never_turn(self):
        fixed = mixed(WORLD, [Plan(WORLD, "state a\nplay * * c:1\n"), Plan(WORLD, "state a\nplay * * d:1\n")], [(1, 2)] * 2)
        self.assertEqual(self.check_answer(COIN, fixed), 2)
        for c in ((1, 0), (0, 1), ((-2, 3), 5)):
            self.assertIsNone(self.check_pays(COIN, fixed, c))
        self.assertEqual(self.check_pays(COIN, counter(6, True), (1, 0)), 6)
        self.assertIsNone(self.check_pays(COIN, counter(6, True), (1, 1)))

    def test_errors_in_order(self):
        other = World(WORLD.text + "signal * * c:1\n")
        letter = Plan(WORLD, "state a\nplay * * c:1-e d:e\n")
        foe = Plan(other, "state a\nplay * * c:1\n", "foe")
        lettered_world = World("mine c\nfoe c\nboard b\npay * * 0 0\nsignal * * x:e y:1-e\n")
        lettered = Plan(lettered_world, "state a\nplay * * c:1\n")
        wrong = (0, 0)
        for call in (alike, lambda one, two: alike_in_pay(one, two, wrong)):
            self.check_error(Unlike, ["side"], call, letter, foe)
            self.check_error(Unlike, ["world"], call, letter, lettered)
            self.check_error(HasLetter, [], call, letter, COIN)
            self.check_error(HasLetter, [], call, COIN, letter)
            self.check_error(HasLetter, [], call, lettered, lettered)
        for c in ((0, 0), [1, 0], (1,), None, (True, 1), ((1, 0), 0)):
            self.check_error(BadNumber, ["direction", c], alike_in_pay, COIN, COIN, c)

    def test_worlds_are_the_same_by_their_texts(self):
        again = Plan(World(WORLD.text), COIN.text)
        self.assertIsInstance(alike(COIN, again), Alike)
        spaced = Plan(World(WORLD.text[:-1]), COIN.text)
        self.check_error(Unlike, ["world"], alike, COIN, spaced)

    def test_equal_calls_tell_equal_answers(self):
        one = alike(counter(5, True), counter(7, True))
        other = alike(counter(5, True), counter(7, True))
        self.assertEqual((one.word, one.chances), (other.word, other.chances))
        self.assertEqual(alike(COIN, COIN).rows, alike(COIN, COIN).rows)


if __name__ == "__main__":
    unittest.main()
