import random
import unittest
from fractions import Fraction

from everyfoe.agreements import Gain, Stretch, gain_at, steady
from everyfoe.borders import Border, between, compared, sign_at
from everyfoe.courses import Course
from everyfoe.errors import BadName, BadNumber, HasLetter, Unlike
from everyfoe.meetings import Meeting
from everyfoe.pieces import patience_pieces, worth_in
from everyfoe.plans import Plan
from everyfoe.worlds import World, world_of
from tests.helper import CheckCase, fraction, pair
from tests.making import drawn_plan, drawn_world

PRISON = world_of(["c", "d"], ["c", "d"], [[(3, 3), (0, 5)], [(5, 0), (1, 1)]])
GRIM = "state nice angry\nplay nice * c:1\nplay angry * d:1\ngo nice * * *.d angry:1\ngo nice * * d.* angry:1\n"


def swapped(world):
    """The world with mine and the foe exchanged, on one board."""
    pays = [[world.pay("b", mine, foe)[::-1] for mine in world.mine] for foe in world.foe]
    return world_of(world.foe, world.mine, pays)


def planted(pays):
    """A pair of plans in which keeping to mine's brings it these pays, round
    by round, and then 0; its other move in the first round brings 0 for ever.
    Later moves of mine change nothing. So mine does not gain just where the
    polynomial of the pays is not below 0."""
    later = sorted({*pays[1:], Fraction(0)})
    lines = ["mine go no", "foe f " + " ".join(f"p{k}" for k in range(len(later))), "board b"]
    lines += [f"pay go f {pays[0]} 0", "pay no f 0 0"]
    lines += [f"pay * p{k} {value} 0" for k, value in enumerate(later)]
    world = World("\n".join(lines) + "\n")
    states = [f"t{k}" for k in range(len(pays))]
    text = ["state " + " ".join([*states, "off"]), f"play off * p{later.index(0)}:1", "play t0 * f:1"]
    for k in range(len(pays)):
        if k:
            text.append(f"play t{k} * p{later.index(pays[k])}:1")
        text.append(f"go t{k} * * * {states[k + 1] if k + 1 < len(pays) else 'off'}:1")
    text.append("go t0 * * no.* off:1")
    foe = Plan(world, "\n".join(text) + "\n", "foe")
    return Plan(world, "state a\nplay * * go:1\n"), foe


class AgreementsTest(CheckCase):
    def check_stretches(self, found):
        self.assertIs(type(found), tuple)
        for stretch in found:
            self.assertIsInstance(stretch, Stretch)
            self.assertLessEqual(compared(stretch.low, stretch.high), 0)
            for end in (stretch.low, stretch.high):
                if isinstance(end, Border):
                    self.assertIsNone(end.ratio)
                else:
                    self.check_ratio(end)
                    self.assertTrue(0 <= fraction(end) <= 1)
            self.assertLess(compared(stretch.low, (1, 1)), 0)
            self.assertGreater(compared(stretch.high, (0, 1)), 0)
        for one, other in zip(found, found[1:]):
            self.assertLess(compared(one.high, other.low), 0)

    def holds(self, found, x):
        return any(compared(each.low, x) <= 0 <= compared(each.high, x) for each in found)

    def places(self, found):
        """Ratios in each stretch, in each gap, and at ends that are ratios."""
        ends = [(0, 1)]
        for each in found:
            ends += [each.low, each.high]
        ends.append((1, 1))
        places = [end for end in ends[1:-1] if not isinstance(end, Border) and 0 < fraction(end) < 1]
        for low, high in zip(ends, ends[1:]):
            if compared(low, high) < 0:
                places.append(between(low, high))
        return places

    def check_from_start(self, plan, other, side):
        found = steady(plan, other, side)
        self.check_stretches(found)
        at = ("mine", "foe").index(side)
        course = Course((other, plan)[at])
        c = ((1, 0), (0, 1))[at]
        pieces = patience_pieces(course, c)
        own = Meeting(plan, other).patience()[at]
        for x in self.places(found):
            best = fraction(worth_in(pieces, x))
            gain = gain_at(plan, other, side, x)
            self.assertIsInstance(gain, Gain)
            self.assertEqual(gain.number, pair(best - fraction(own.at(x))))
            self.assertEqual(gain.number == (0, 1), self.holds(found, x))
            self.check_choice(course, gain.choice, c, fraction(x), best)
        return found

    def check_choice(self, course, choice, c, x, best):
        """The choice has the worth: its worths from all standings are those
        of one round and what follows, and it is worth best from the start."""
        self.assertIs(type(choice), tuple)
        self.assertEqual(len(choice), len(course.standings))
        spots = [Fraction(0)] * len(choice)
        for _ in range(60):
            after = []
            for k, move in enumerate(choice):
                pay = sum(a * fraction(b) for a, b in zip(c, course.pay(k, move)))
                after.append((1 - x) * pay + x * sum(fraction(part) * spots[j] for _, j, part in course.steps(k, move)))
            spots = [Fraction(int(spot * 10**30), 10**30) for spot in after]
        worth = sum(fraction(part) * spot for part, spot in zip(course.start, spots))
        self.assertLess(abs(worth - best), 40 * x**60 + Fraction(1, 10**20))

    def test_grim_plans(self):
        grim = Plan(PRISON, GRIM)
        other = Plan(PRISON, GRIM, "foe")
        for side in ("mine", "foe", "both"):
            for everywhere in (False, True):
                found = steady(grim, other, side, everywhere=everywhere)
                self.assertEqual([(each.low, each.high) for each in found], [((1, 2), (1, 1))])
        gain = gain_at(grim, other, "mine", (1, 4))
        self.assertEqual(gain.number, (1, 1))
        self.assertEqual(gain_at(grim, other, "foe", (2, 4)).number, (0, 1))

    def test_always_and_never(self):
        bad = Plan(PRISON, "state a\nplay * * d:1\n")
        foe = Plan(PRISON, "state a\nplay * * d:1\n", "foe")
        for everywhere in (False, True):
            found = steady(bad, foe, "both", everywhere=everywhere)
            self.assertEqual([(each.low, each.high) for each in found], [((0, 1), (1, 1))])
        good = Plan(PRISON, "state a\nplay * * c:1\n")
        self.assertEqual(steady(good, foe, "mine"), ())
        self.assertEqual(len(steady(good, foe, "foe")), 1)
        self.assertEqual(steady(good, foe, "both", everywhere=True), ())

    def test_everywhere_is_narrower(self):
        """From the start nothing is gained, but from another joint standing."""
        weak = Plan(PRISON, "state a b\nplay a * d:1\nplay b * c:1\ngo * * * *.c b:1\n")
        foe = Plan(PRISON, "state a\nplay * * d:1\n", "foe")
        self.assertEqual(len(steady(weak, foe, "mine")), 1)
        self.assertEqual(steady(weak, foe, "mine", everywhere=True), ())

    def test_drawn_plans(self):
        chance = random.Random(1)
        kinds = []
        for k in range(60):
            world = drawn_world(chance, 2, 2, chance.randint(1, 2)) if k % 2 else PRISON
            most = chance.randint(1, 2)
            plan = drawn_plan(chance, world, "mine", chance.randint(1, 2), most=most)
            other = drawn_plan(chance, world, "foe", chance.randint(1, 2), most=most)
            sets = [self.check_from_start(plan, other, side) for side in ("mine", "foe")]
            both = steady(plan, other, "both")
            self.check_stretches(both)
            for x in [(n, 17) for n in range(1, 17)] + self.places(both):
                self.assertEqual(self.holds(both, x), self.holds(sets[0], x) and self.holds(sets[1], x))
            for at, side in enumerate(("mine", "foe")):
                kinds.append(len(self.check_everywhere(plan, other, at, side, sets[at])))
        self.assertIn(1, kinds)

    def check_everywhere(self, plan, other, at, side, wider):
        found = steady(plan, other, side, everywhere=True)
        self.check_stretches(found)
        meeting = Meeting(plan, other, True)
        worths = meeting.patience_each()
        for x in self.places(found):
            own = [fraction(each[at].at(x)) for each in worths]
            fits = True
            for k, standing in enumerate(meeting.standings):
                for move in (plan.world.mine, plan.world.foe)[at]:
                    fits = fits and own[k] >= self.one_round(meeting, standing, at, move, fraction(x), own)
            self.assertEqual(fits, self.holds(found, x))
            if fits:
                self.assertTrue(self.holds(wider, x))
        return found

    def one_round(self, meeting, standing, at, move, x, own):
        """What one round of a move is worth from a joint standing."""
        board, first, second = standing
        world = meeting.plan.world
        index = {each: k for k, each in enumerate(meeting.standings)}
        total = Fraction(0)
        answers = meeting.other.play(second, board) if at == 0 else meeting.plan.play(first, board)
        for answer, chance in answers:
            mine, foe = (move, answer) if at == 0 else (answer, move)
            later = Fraction(0)
            for signal, part in world.signals(board, mine, foe):
                for goal, share in world.going(board, mine, foe):
                    for one, p in meeting.plan.after(first, board, mine, signal):
                        for two, q in meeting.other.after(second, board, foe, signal):
                            weight = fraction(part) * fraction(share) * fraction(p) * fraction(q)
                            later += weight * own[index[(goal, one, two)]]
            total += fraction(chance) * ((1 - x) * fraction(world.pay(board, mine, foe)[at]) + x * later)
        return total

    def check_planted(self, roots_row, expected):
        """Where a polynomial with these items is not below 0; expected are
        pairs of ends, each a ratio or a row whose root it is."""
        plan, other = planted([Fraction(item) for item in roots_row])
        found = steady(plan, other, "mine")
        self.check_stretches(found)
        self.assertEqual(len(found), len(expected))
        for each, (low, high) in zip(found, expected):
            for end, told in ((each.low, low), (each.high, high)):
                if len(told) > 2:
                    self.assertIsInstance(end, Border)
                    self.assertEqual(sign_at(told, end), 0)
                else:
                    self.assertEqual(end, told)
        self.check_from_start(plan, other, "mine")
        return plan, other

    def test_planted_polynomials(self):
        zero, one = (0, 1), (1, 1)
        half = (-1, 0, 2)
        self.check_planted((-1, 3), [((1, 3), one)])
        self.check_planted((1, -3), [(zero, (1, 3))])
        self.check_planted(half, [(half, one)])
        self.check_planted((1, 0, -2), [(zero, half)])
        self.check_planted((2, -9, 9), [(zero, (1, 3)), ((2, 3), one)])
        self.check_planted((-2, 9, -9), [((1, 3), (2, 3))])
        self.check_planted((1, 0, -4, 0, 2), [(zero, (1, 0, -4, 0, 2))])
        self.check_planted((1, 2), [(zero, one)])
        self.check_planted((-3, 3), [])
        self.check_planted((0, 1), [(zero, one)])

    def test_planted_double_roots(self):
        """Single numbers, also ones that are no ratios, and touched ones
        within a stretch."""
        zero, one = (0, 1), (1, 1)
        half = (-1, 0, 2)
        self.check_planted((1, -4, 4), [(zero, one)])
        self.check_planted((-1, 4, -4), [((1, 2), (1, 2))])
        self.check_planted((1, 0, -4, 0, 4), [(zero, one)])
        plan, foe = self.check_planted((-1, 0, 4, 0, -4), [(half, half)])
        found = steady(plan, foe, "both")
        self.assertEqual((len(found), compared(found[0].low, found[0].high)), (1, 0))

    def test_boards_in_turn(self):
        world = World(
            "mine go no\nfoe p\nboard a\npay go p -1/8 0\npay no p 0 0\ngo go p b:1\ngo no p z:1\n"
            "board b\npay * p 3/4 0\ngo * p c:1\nboard c\npay * p -1 0\ngo * p z:1\nboard z\npay * p 0 0\n"
        )
        mine = Plan(world, "state s\nplay * * go:1\n")
        foe = Plan(world, "state s\nplay * * p:1\n", "foe")
        found = self.check_from_start(mine, foe, "mine")
        self.assertEqual([(each.low, each.high) for each in found], [((1, 4), (1, 2))])
        found = steady(mine, foe, "mine", everywhere=True)
        self.assertEqual([(each.low, each.high) for each in found], [((1, 4), (1, 2))])
        found = steady(mine, foe, "foe")
        self.assertEqual([(each.low, each.high) for each in found], [((0, 1), (1, 1))])

    def test_a_single_number_between_two_pieces(self):
        """The best worth is that of no up to 1 / 2, that of big behind it;
        that of go is below both, but for 1 / 2 itself."""
        world = World(
            "mine go no big\nfoe p\nboard a\npay go p -1 0\npay no p 0 0\npay big p -2 0\n"
            "go go p b:1\ngo no p z:1\ngo big p c:1\nboard b\npay * p 2 0\ngo * p z:1\n"
            "board c\npay * p 4 0\ngo * p z:1\nboard z\npay * p 0 0\n"
        )
        mine = Plan(world, "state s\nplay * * go:1\n")
        foe = Plan(world, "state s\nplay * * p:1\n", "foe")
        found = self.check_from_start(mine, foe, "mine")
        self.assertEqual([(each.low, each.high) for each in found], [((1, 2), (1, 2))])
        found = steady(mine, foe, "both", everywhere=True)
        self.assertEqual([(each.low, each.high) for each in found], [((1, 2), (1, 2))])

    def test_what_both_sets_have_in_common(self):
        """Each side does not gain where the polynomial of its own pays is not
        below 0: by leaving in the first round it gets 0 for ever."""
        zero, one, third, half = (0, 1), (1, 1), (1, 3), (1, 2)
        up = ("-1/2", "1", "0")
        down = ("1/3", "-1", "0")
        outer = ("2", "-9", "9")
        inner = ("-2", "9", "-9")
        cases = (
            (up, down, []),
            (down, up, []),
            (up, up, [(half, one)]),
            (outer, inner, [(third, third), ((2, 3), (2, 3))]),
            (inner, down, [(third, third)]),
            (outer, up, [((2, 3), one)]),
            (down, outer, [(zero, third)]),
            (outer, outer, [(zero, third), ((2, 3), one)]),
            (inner, up, [(half, (2, 3))]),
            (("1", "0", "-2"), outer, [(zero, third), ((2, 3), (1, 0, -2))]),
        )
        for mine, foe, expected in cases:
            plan, other = self.side_by_side(mine, foe)
            for everywhere in (False, True):
                found = steady(plan, other, "both", everywhere=everywhere)
                self.check_stretches(found)
                self.assertEqual(len(found), len(expected))
                for each, (low, high) in zip(found, expected):
                    self.assertEqual(each.low, low)
                    if len(high) == 2:
                        self.assertEqual(each.high, high)
                    else:
                        self.assertEqual(sign_at(high, each.high), 0)

    def side_by_side(self, mine, foe):
        """Plans whose pays in the first three rounds are these."""
        lines = ["mine go no", "foe go no"]
        for k in range(3):
            lines += [f"board b{k}", f"pay * * {mine[k]} {foe[k]}", f"go * * {('b1', 'b2', 'z')[k]}:1"]
            if k == 0:
                lines += ["pay no * 0 0", "pay * no 0 0", "go no * z:1", "go * no z:1"]
        world = World("\n".join([*lines, "board z", "pay * * 0 0"]) + "\n")
        text = "state s\nplay * * go:1\n"
        return Plan(world, text), Plan(world, text, "foe")

    def test_sides_exchanged(self):
        chance = random.Random(2)
        for _ in range(15):
            pays = [[(chance.randint(-3, 3), chance.randint(-3, 3)) for _ in range(2)] for _ in range(2)]
            world = world_of(["c", "d"], ["c", "d"], pays)
            other_world = swapped(world)
            text = "state a b\nplay a * c:1\nplay b * d:1\ngo a * * c.d b:1\ngo b * * d.c a:1\n"
            turned = "state a b\nplay a * c:1\nplay b * d:1\ngo a * * d.c b:1\ngo b * * c.d a:1\n"
            second = "state a b\nplay a * c:1/2 d:1/2\nplay b * d:1\ngo a * * d.* b:1\n"
            second_turned = "state a b\nplay a * c:1/2 d:1/2\nplay b * d:1\ngo a * * *.d b:1\n"
            for everywhere in (False, True):
                one = steady(Plan(world, text), Plan(world, second, "foe"), "mine", everywhere=everywhere)
                two = steady(Plan(other_world, second_turned), Plan(other_world, turned, "foe"), "foe", everywhere=everywhere)
                self.assertEqual(len(one), len(two))
                for first, last in zip(one, two):
                    self.assertEqual((compared(first.low, last.low), compared(first.high, last.high)), (0, 0))

    def test_moves_that_the_plan_never_plays(self):
        """The own lines go for a move count, though it is never played."""
        foe = Plan(PRISON, "state a\nplay * * c:1\n", "foe")
        shy = "state nice out\nplay nice * c:1\nplay out * c:1\n"
        self.assertEqual(steady(Plan(PRISON, shy), foe, "mine", everywhere=True), ())
        world = World(PRISON.text.replace("pay d c 5 0", "pay d c 3 0"))
        foe = Plan(world, "state a b\nplay a * c:1\nplay b * d:1\ngo * * * d.* b:1\n", "foe")
        plan = Plan(world, "state nice out\nplay nice * c:1\nplay out * d:1\ngo nice * d * out:1\n")
        stays = Plan(world, "state nice out\nplay nice * c:1\nplay out * d:1\n")
        # Behind d the foe plays d: the first plan then plays d, too.
        self.assertEqual(len(Meeting(plan, foe, True).standings), 2)
        found = steady(plan, foe, "mine", everywhere=True)
        self.assertEqual([(each.low, each.high) for each in found], [((0, 1), (1, 1))])
        self.assertEqual(steady(stays, foe, "mine", everywhere=True), ())

    def test_errors_in_order(self):
        mine = Plan(PRISON, GRIM)
        foe = Plan(PRISON, GRIM, "foe")
        other = Plan(World(PRISON.text + "pay c c 2 2\n"), GRIM, "foe")
        letter = Plan(PRISON, "state a\nplay * * c:e d:1-e\n", "foe")
        calls = (steady, lambda *args: gain_at(*args, "x"))
        for call in calls:
            self.check_error(Unlike, ["side"], call, foe, mine, "x")
            self.check_error(Unlike, ["side"], call, mine, mine, "x")
            self.check_error(Unlike, ["world"], call, mine, other, "x")
            self.check_error(HasLetter, [], call, mine, letter, "x")
            for side in ("x", None, 1, "Mine", ["mine"], ("both",)):
                self.check_error(BadName, [side], call, mine, foe, side)
        self.check_error(BadName, ["both"], gain_at, mine, foe, "both", (1, 2))
        for x in (0, 1, (0, 1), (2, 2), (3, 2), (-1, 2), None, "1/2", 0.5, [1, 2], True, (1, 0)):
            self.check_error(BadNumber, ["x", x], gain_at, mine, foe, "mine", x)
        with self.assertRaises(TypeError):
            steady(mine, foe, "mine", True)

    def test_objects_keep_what_they_are_given(self):
        stretch = Stretch((0, 2), (2, 2))
        self.assertEqual((stretch.low, stretch.high), ((0, 2), (2, 2)))

    def test_long_ratios(self):
        x = (10**399 + 7, 3 * 10**399 + 1)
        gain = gain_at(Plan(PRISON, GRIM), Plan(PRISON, GRIM, "foe"), "mine", x)
        self.assertEqual(gain.number, pair(2 - 4 * fraction(x)))


if __name__ == "__main__":
    unittest.main()
