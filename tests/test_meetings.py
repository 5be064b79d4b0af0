import itertools
import random
import unittest
from fractions import Fraction

from everyfoe.errors import BadNumber, HasLetter, TooLarge, Unlike
from everyfoe.meetings import Meeting
from everyfoe.plans import Plan
from everyfoe.quotients import Quotient
from everyfoe.rows import content
from everyfoe.worlds import World
from tests.helper import CheckCase, fraction, pair
from tests.making import drawn_plan, drawn_world
from tests.test_courses import ANGRY, E, OTHER, TABLE, number


def draws(meeting, standing, e, moves=None):
    """The chances of the next joint standings, one draw after another."""
    board, own, against = standing
    world, plan, other = meeting.plan.world, meeting.plan, meeting.other
    if moves is None:
        moves = [(m, f, number(a, e) * number(b, e)) for m, a in plan.play(own, board) for f, b in other.play(against, board)]
    found = {}
    for mine, foe, a in moves:
        for signal, b in world.signals(board, mine, foe):
            for goal, c in world.going(board, mine, foe):
                for one, d in plan.after(own, board, mine, signal):
                    for two, f in other.after(against, board, foe, signal):
                        share = a * number(b, e) * number(c, e) * number(d, e) * number(f, e)
                        found[goal, one, two] = found.get((goal, one, two), 0) + share
    return found


def first_ones(meeting, e):
    board = meeting.plan.world.boards[0]
    return {(board, s, t): number(a, e) * number(b, e) for s, a in meeting.plan.start for t, b in meeting.other.start}


def all_reached(meeting, wide):
    world = meeting.plan.world
    any_moves = [(m, f, Fraction(1)) for m in world.mine for f in world.foe] if wide else None
    found = set(first_ones(meeting, E[0]))
    waiting = list(found)
    while waiting:
        for after in draws(meeting, waiting.pop(), E[0], any_moves):
            if after not in found:
                found.add(after)
                waiting.append(after)
    places = [world.boards, meeting.plan.states, meeting.other.states]
    return sorted(found, key=lambda s: [names.index(word) for names, word in zip(places, s)])


def expected_pays(meeting, standing, e):
    board, own, against = standing
    found = [Fraction(0), Fraction(0)]
    for m, a in meeting.plan.play(own, board):
        for f, b in meeting.other.play(against, board):
            for side, amount in enumerate(meeting.plan.world.pay(board, m, f)):
                found[side] += number(a, e) * number(b, e) * fraction(amount)
    return found


def solve(rows, right):
    """The answer of a square system of Fractions."""
    many = len(rows)
    lines = [[Fraction(item) for item in row] + [side] for row, side in zip(rows, right)]
    for k in range(many):
        at = next(j for j in range(k, many) if lines[j][k])
        lines[k], lines[at] = lines[at], lines[k]
        lines[k] = [item / lines[k][k] for item in lines[k]]
        for j in range(many):
            if j != k and lines[j][k]:
                lines[j] = [a - lines[j][k] * b for a, b in zip(lines[j], lines[k])]
    return [line[-1] for line in lines]


def matrix_of(meeting, e):
    index = {standing: k for k, standing in enumerate(meeting.standings)}
    rows = []
    for standing in meeting.standings:
        row = [Fraction(0)] * len(index)
        for after, chance in draws(meeting, standing, e).items():
            row[index[after]] = chance
        rows.append(row)
    return rows


def closed_sets(rows):
    many = len(rows)
    behind = []
    for k in range(many):
        found = set()
        waiting = [k]
        while waiting:
            for j, chance in enumerate(rows[waiting.pop()]):
                if chance and j not in found:
                    found.add(j)
                    waiting.append(j)
        behind.append(found)
    return sorted({tuple(sorted(behind[k])) for k in range(many) if all(k in behind[j] for j in behind[k])})


def class_chances(rows, start, classes):
    many = len(rows)
    found = []
    closed = {k for members in classes for k in members}
    for members in classes:
        lines, right = [], []
        for k in range(many):
            inner = k not in closed
            lines.append([(1 if j == k else 0) - (rows[k][j] if inner else 0) for j in range(many)])
            right.append(Fraction(0) if inner or k not in members else Fraction(1))
        found.append(sum(a * b for a, b in zip(start, solve(lines, right))))
    return found


def stationary(rows, members):
    lines = [[rows[j][k] - (1 if j == k else 0) for j in members] for k in members[1:]]
    return solve(lines + [[Fraction(1)] * len(members)], [Fraction(0)] * (len(members) - 1) + [Fraction(1)])


def means_of(meeting, e):
    rows = matrix_of(meeting, e)
    classes = closed_sets(rows)
    start = [first_ones(meeting, e).get(standing, Fraction(0)) for standing in meeting.standings]
    pays = [expected_pays(meeting, standing, e) for standing in meeting.standings]
    found = [Fraction(0), Fraction(0)]
    for members, chance in zip(classes, class_chances(rows, start, classes)):
        for share, k in zip(stationary(rows, members), members):
            for side in (0, 1):
                found[side] += chance * share * pays[k][side]
    return found


def drawn_meeting(chance, letter=False, wide=False, states=3, most=2):
    world = drawn_world(chance, chance.randint(1, 3), chance.randint(1, 3), chance.randint(1, 2), letter=letter and chance.random() < 0.5)
    plan = drawn_plan(chance, world, "mine", chance.randint(1, states), letter, most)
    other = drawn_plan(chance, world, "foe", chance.randint(1, states), letter and chance.random() < 0.5, most, prefix="z")
    return Meeting(plan, other, wide)


class MeetingTest(CheckCase):
    def check_amount(self, amount, lettered):
        if lettered:
            self.assertIsInstance(amount, Quotient)
        else:
            self.check_ratio(amount)

    def check_chances(self, meeting, wide):
        lettered = meeting.plan.world.lettered or meeting.plan.lettered or meeting.other.lettered
        self.assertIs(meeting.lettered, lettered)
        self.assertEqual(list(meeting.standings), all_reached(meeting, wide))
        self.assertIs(type(meeting.standings), tuple)
        self.assertIs(type(meeting.start), tuple)
        many = len(meeting.standings)
        for e in E:
            first = first_ones(meeting, e)
            self.assertEqual([number(a, e) for a in meeting.start], [first.get(s, 0) for s in meeting.standings])
            for k in range(many):
                found = {meeting.standings[j]: number(a, e) for j, a in meeting.going(k)}
                self.assertEqual(found, draws(meeting, meeting.standings[k], e))
                self.assertEqual([number(a, e) for a in meeting.pay(k)], expected_pays(meeting, meeting.standings[k], e))
        for amount in meeting.start:
            self.check_amount(amount, lettered)
        for k in range(many):
            places = [j for j, _ in meeting.going(k)]
            self.assertEqual(places, sorted(set(places)))
            self.assertIs(type(meeting.going(k)), tuple)
            for amount in [a for _, a in meeting.going(k)] + list(meeting.pay(k)):
                self.check_amount(amount, lettered)
            self.assertEqual((meeting.going(k), meeting.pay(k)), (meeting.going(k), meeting.pay(k)))

    def check_classes(self, meeting):
        classes = meeting.closed_classes()
        self.assertIs(type(classes), tuple)
        self.assertEqual(classes, meeting.closed_classes())
        self.assertEqual(meeting.means(), meeting.means())
        for amount in [chance for _, chance in classes] + list(meeting.means()):
            self.check_amount(amount, meeting.lettered)
        for e in E:
            rows = matrix_of(meeting, e)
            self.assertEqual([members for members, _ in classes], closed_sets(rows))
            start = [first_ones(meeting, e).get(standing, Fraction(0)) for standing in meeting.standings]
            self.assertEqual([number(a, e) for _, a in classes], class_chances(rows, start, closed_sets(rows)))
            self.assertEqual([number(a, e) for a in meeting.means()], means_of(meeting, e))
        return classes

    def test_drawn_meetings(self):
        chance = random.Random(1)
        sizes = set()
        for count in range(150):
            wide = count % 4 > 1
            meeting = drawn_meeting(chance, count % 2 == 1, wide, most=chance.choice([1, 2]))
            self.check_chances(meeting, wide)
            classes = self.check_classes(meeting)
            sizes.add((len(classes), max(len(members) for members, _ in classes)))
        self.assertTrue(any(many > 1 for many, _ in sizes))
        self.assertTrue(any(size > 2 for _, size in sizes))

    def test_wide(self):
        chance = random.Random(2)
        more = nothing = 0
        for count in range(60):
            world = drawn_world(chance, 2, 2, chance.randint(1, 2))
            plan = drawn_plan(chance, world, "mine", 3, most=1)
            other = drawn_plan(chance, world, "foe", 2, most=1)
            slim, wide = Meeting(plan, other), Meeting(plan, other, wide=True)
            self.assertEqual([s for s in wide.standings if s in slim.standings], list(slim.standings))
            self.assertEqual(wide.means(), slim.means())
            self.assertEqual(wide.recurrence(), slim.recurrence())
            self.assertEqual(wide.patience(), slim.patience())
            self.assertEqual(wide.pays_at(5), slim.pays_at(5))
            kept = [(tuple(wide.standings[k] for k in members), chance) for members, chance in wide.closed_classes() if chance != (0, 1)]
            self.assertEqual(kept, [(tuple(slim.standings[k] for k in members), chance) for members, chance in slim.closed_classes()])
            more += len(wide.standings) > len(slim.standings)
            nothing += len(wide.closed_classes()) > len(slim.closed_classes())
            self.assertEqual(Meeting(plan, other, False).standings, slim.standings)
        self.assertGreater(more, 5)
        self.assertGreater(nothing, 0)

    def test_rounds(self):
        chance = random.Random(3)
        for count in range(40):
            meeting = drawn_meeting(chance, wide=count % 2 == 1)
            rows = matrix_of(meeting, E[0])
            row = [first_ones(meeting, E[0]).get(s, Fraction(0)) for s in meeting.standings]
            told = []
            for n in range(13):
                pays = [sum(a * expected_pays(meeting, s, E[0])[side] for a, s in zip(row, meeting.standings)) for side in (0, 1)]
                told.append((tuple(pair(a) for a in row), tuple(pair(a) for a in pays)))
                row = [sum(row[j] * rows[j][k] for j in range(len(row))) for k in range(len(row))]
            order = list(range(13)) * 2
            chance.shuffle(order)
            for n in order:
                self.assertEqual((meeting.chances_at(n), meeting.pays_at(n)), told[n])

    def test_round_200(self):
        plan = Plan(TABLE, "state s t\nplay s b c:1\nplay t b d:1\ngo s * * * s:1/2 t:1/2\n")
        other = Plan(TABLE, "state s\nplay s b d:1\n", "foe")
        meeting = Meeting(plan, other)
        gone = (2 ** 200 - 1, 2 ** 200)
        for _ in range(2):
            self.assertEqual(meeting.chances_at(200), ((1, 2 ** 200), gone))
            self.assertEqual(meeting.pays_at(200), (gone, pair(1 + Fraction(4, 2 ** 200))))
            self.assertEqual(meeting.chances_at(0), ((1, 1), (0, 1)))
        for call in (meeting.chances_at, meeting.pays_at):
            for value in [-1, -(10 ** 30), None, "1", True, False, (1, 1), (200, 1)]:
                self.check_error(BadNumber, ("round", value), call, value)
            for value in (201, 10 ** 400):
                self.check_error(TooLarge, ("round", value, 200), call, value)

    def check_patience(self, meeting):
        each = meeting.patience_each()
        worths = meeting.patience()
        self.assertEqual((meeting.patience_each(), meeting.patience()), (each, worths))
        self.assertIs(type(each), tuple)
        self.assertEqual(len(each), len(meeting.standings))
        one = Quotient((1,))
        x = Quotient((0, 1))
        for side in (0, 1):
            for k in range(len(each)):
                pay = meeting.pay(k)[side]
                found = (one - x) * Quotient((pay[0],) if pay[0] else (), (pay[1],))
                for j, chance in meeting.going(k):
                    found = found + x * Quotient((chance[0],), (chance[1],)) * each[j][side]
                self.assertEqual(found, each[k][side])
            found = Quotient(())
            for chance, spot in zip(meeting.start, each):
                found = found + Quotient((chance[0],) if chance[0] else (), (chance[1],)) * spot[side]
            self.assertEqual(found, worths[side])
        self.assertEqual(tuple(worth.at(1) for worth in worths), meeting.means())
        self.assertEqual(tuple(worth.at(0) for worth in worths), meeting.pays_at(0))

    def check_recurrence(self, meeting):
        row = meeting.recurrence()
        self.assertEqual(row, meeting.recurrence())
        self.assertEqual([type(item) for item in row], [int] * len(row))
        self.assertGreater(row[-1], 0)
        self.assertEqual(content(row), 1)
        many = len(meeting.standings)
        pays = [[fraction(a) for a in meeting.pays_at(n)] for n in range(2 * many + len(row))]
        for n in range(2 * many):
            for side in (0, 1):
                self.assertEqual(sum(row[i] * pays[n + i][side] for i in range(len(row))), 0)
        # No shorter row: the pays of so many rounds in turn are independent.
        width = len(row) - 1
        lines = [[pays[n + i][side] for i in range(width)] for n in range(2 * many) for side in (0, 1)]
        self.assertEqual(fraction_rank(lines, width), width)
        return row

    def test_patience_and_recurrence(self):
        chance = random.Random(4)
        lengths = set()
        for count in range(60):
            meeting = drawn_meeting(chance, wide=count % 3 == 0, most=chance.choice([1, 2]))
            self.check_patience(meeting)
            row = self.check_recurrence(meeting)
            lengths.add((len(row), row[0] == 0))
        self.assertTrue({(1, False), (2, False), (3, True)} <= lengths or len(lengths) > 6, lengths)

    def test_recurrences(self):
        nothing = World("mine c d\nfoe c\nboard b\npay * * 0 0\n")
        plan = Plan(nothing, "state s t\nplay s b c:1/2 d:1/2\nplay t b c:1\ngo s * d * t:1\n")
        other = Plan(nothing, "state s\nplay s b c:1\n", "foe")
        self.assertEqual(Meeting(plan, other).recurrence(), (1,))
        self.assertEqual(Meeting(plan, other).patience(), (Quotient(()), Quotient(())))
        # Pays 3, then 1 without end; and pays 0 for one side alone.
        world = World("mine c d\nfoe c\nboard b\npay c * 3 0\npay d * 1 0\n")
        turned = Plan(world, "state s t\nplay s b c:1\nplay t b d:1\ngo s * * * t:1\n")
        other = Plan(world, "state s\nplay s b c:1\n", "foe")
        self.assertEqual(Meeting(turned, other).recurrence(), (0, -1, 1))
        self.assertEqual(Meeting(turned, other).patience()[0], Quotient((3, -2)))
        ring = Plan(world, "state s t u\nplay s b c:1\nplay * b d:1\nplay s b c:1\ngo s * * * t:1\ngo t * * * u:1\ngo u * * * s:1\n")
        self.assertEqual(Meeting(ring, other).recurrence(), (-1, 0, 0, 1))
        gone = World("mine c d\nfoe c\nboard b\npay c * 3 7\npay d * 0 0\n")
        turned = Plan(gone, "state s t\nplay s b c:1\nplay t b d:1\ngo s * * * t:1\n")
        self.assertEqual(Meeting(turned, Plan(gone, "state s\nplay s b c:1\n", "foe")).recurrence(), (0, 1))
        halved = Plan(gone, "state s t\nplay s b c:1\nplay t b d:1\ngo s * * * s:1/3 t:2/3\n")
        self.assertEqual(Meeting(halved, Plan(gone, "state s\nplay s b c:1\n", "foe")).recurrence(), (-1, 3))

    def test_classes_that_turn(self):
        text = "state s t u v\nstart s:1/3 u:2/3\nplay s b c:1\nplay t b d:1\nplay u b c:1\nplay v b d:1\n"
        plan = Plan(TABLE, text + "go s * * * t:1\ngo t * * * s:1\ngo u * * * v:1\ngo v * * * u:1\n")
        one = Plan(TABLE, "state s\nplay s b c:1\n", "foe")
        meeting = Meeting(plan, one)
        self.assertEqual(meeting.closed_classes(), (((0, 1), (1, 3)), ((2, 3), (2, 3))))
        self.assertEqual(meeting.means(), ((4, 1), (3, 2)))
        three = Plan(TABLE, "state a b c\nplay * b c:1\nplay c b d:1\ngo a * * * b:1\ngo b * * * c:1\ngo c * * * a:1\n", "foe")
        meeting = Meeting(plan, three)
        self.assertEqual([len(members) for members, _ in meeting.closed_classes()], [6, 6])
        self.check_classes(meeting)
        self.assertEqual(Meeting(Plan(TABLE, ANGRY), one).closed_classes(), (((0,), (1, 1)),))

    def test_settled(self):
        chance = random.Random(5)
        done = 0
        while done < 25:
            meeting = drawn_meeting(chance, True, done % 2 == 1)
            if meeting.lettered:
                done += 1
                e = chance.choice(E)
                world = meeting.plan.world.settled(pair(e))
                settled = Meeting(Plan(world, meeting.plan.settled(pair(e)).text), Plan(world, meeting.other.settled(pair(e)).text, "foe"), done % 2 == 0)
                self.assertIs(settled.lettered, False)
                self.assertEqual(settled.standings, meeting.standings)
                self.assertEqual(settled.means(), tuple(pair(number(a, e)) for a in meeting.means()))
                classes = tuple((members, pair(number(a, e))) for members, a in meeting.closed_classes())
                self.assertEqual(settled.closed_classes(), classes)

    def test_letters(self):
        letter = Plan(TABLE, "state s\nplay s b c:e d:1-e\n")
        plain = Plan(TABLE, "state s\nplay s b c:1\n")
        other = Plan(TABLE, "state s\nplay s b c:1\n", "foe")
        other_letter = Plan(TABLE, "state s\nplay s b c:e d:1-e\n", "foe")
        world = World(TABLE.text + "signal * * u:e v:1-e\n")
        alone = Meeting(Plan(world, plain.text), Plan(world, plain.text, "foe"))
        for meeting in (Meeting(letter, other), Meeting(plain, other_letter), alone):
            self.assertIs(meeting.lettered, True)
            self.assertIsInstance(meeting.start[0], Quotient)
            for call, args in ((meeting.chances_at, (-1,)), (meeting.chances_at, (201,)), (meeting.pays_at, (None,)), (meeting.patience, ()), (meeting.patience_each, ()), (meeting.recurrence, ())):
                self.check_error(HasLetter, (), call, *args)
        self.assertEqual(Meeting(letter, other).means(), (Quotient((5, -2)), Quotient((0, 3))))
        self.assertIs(Meeting(plain, other).lettered, False)

    def test_errors(self):
        plan = Plan(TABLE, ANGRY)
        other = Plan(TABLE, ANGRY, "foe")
        far = Plan(OTHER, ANGRY)
        far_other = Plan(OTHER, ANGRY, "foe")
        for one, two in ((other, plan), (plan, plan), (other, other), (far, plan), (far_other, other), (plan, far)):
            self.check_error(Unlike, ("side",), Meeting, one, two)
            self.check_error(Unlike, ("side",), Meeting, one, two, wide=True)
        for one, two in ((far, other), (plan, far_other)):
            self.check_error(Unlike, ("world",), Meeting, one, two)
        again = Meeting(plan, Plan(World(TABLE.text), ANGRY, "foe"))
        self.assertIs(again.plan, plan)
        self.assertEqual(again.other.text, ANGRY)
        self.assertEqual(again.standings, (("b", "nice", "nice"),))
        wide = Meeting(plan, other, True)
        self.assertEqual(len(wide.standings), 2)
        for meeting in (again, wide):
            many = len(meeting.standings)
            for value in [-1, many, 10 ** 400, None, "0", True, False, (0, 1), [0]]:
                self.check_error(BadNumber, ("standing", value), meeting.going, value)
                self.check_error(BadNumber, ("standing", value), meeting.pay, value)
            meeting.pay(many - 1)


def fraction_rank(lines, width):
    lines = [list(line) for line in lines]
    done = 0
    for column in range(width):
        at = next((k for k in range(done, len(lines)) if lines[k][column]), None)
        if at is not None:
            lines[done], lines[at] = lines[at], lines[done]
            for k in range(done + 1, len(lines)):
                factor = lines[k][column] / lines[done][column]
                lines[k] = [a - factor * b for a, b in zip(lines[k], lines[done])]
            done += 1
    return done


if __name__ == "__main__":
    unittest.main()
