import itertools
import random
import unittest
from fractions import Fraction

from everyfoe.borders import Border, between, compared, narrowed, roots_within, sign_at
from everyfoe.builders import trembled
from everyfoe.courses import Course
from everyfoe.errors import BadChoice, BadNumber, HasLetter, NoLetter
from everyfoe.means import greatest_mean
from everyfoe.pieces import (
    ErrorPart,
    Part,
    Piece,
    error_pieces,
    first_error,
    order_of,
    patience_pieces,
    pieces_hold,
    worth_in,
    worth_of,
)
from everyfoe.plans import Plan
from everyfoe.quotients import Quotient
from everyfoe.rulebooks import Rulebook
from everyfoe.worlds import World
from tests.helper import CheckCase, fraction, pair
from tests.making import drawn_distribution
from tests.test_courses import ANGRY, TABLE, drawn_course
from tests.test_leads import NO_DIRECTIONS
from tests.test_means import LETTERED, all_choices, many_choices, start_mean, worth_in as weighed
from tests.test_meetings import solve

NO_INNER = [0, 1, (0, 1), (3, 3), (3, 2), -1, (-1, 2), None, "1/2", True, (1, 0), [1, 2], 0.5]
E = Quotient((0, 1))
ONE = Quotient((1,))


def quotient(ratio):
    number = fraction(ratio)
    return Quotient((number.numerator,) if number else (), (number.denominator,))


def as_quotient(amount):
    return amount if isinstance(amount, Quotient) else quotient(amount)


def direct(course, k, move, c):
    """The worth of a round, as a Quotient."""
    pays = [as_quotient(amount) for amount in course.pay(k, move)]
    return quotient(c[0]) * pays[0] + quotient(c[1]) * pays[1]


def drawn(course, k, move, spots):
    found = Quotient(())
    for _, after, chance in course.steps(k, move):
        found = found + as_quotient(chance) * spots[after]
    return found


def rich_course(chance, letter=False, states=4, most=1):
    """A course with many pieces: pays that are far apart."""
    pays = "".join(f"pay {m} {f} {chance.randint(-9, 9)} {chance.randint(-9, 9)}\n" for m in "cd" for f in "cd")
    world = World("mine c d\nfoe c d\nboard b\n" + pays)
    names = [f"q{k}" for k in range(states)]
    lines = ["state " + " ".join(names)]
    for name in names:
        lines.append(f"play {name} * {chance.choice('cd')}:1")
        for signal in ("c.c", "c.d", "d.c", "d.d"):
            lines.append(f"go {name} * * {signal} {drawn_distribution(chance, names, most)}")
    plan = Plan(world, "\n".join(lines), chance.choice(["mine", "foe"]))
    return Course(trembled(world, plan) if letter else plan)


def patience_at(course, choice, c, x):
    """The patience worths of a choice from all standings, at one x."""
    many = len(choice)
    lines, right = [], []
    for k, move in enumerate(choice):
        row = [Fraction(int(j == k)) for j in range(many)]
        for _, after, amount in course.steps(k, move):
            row[after] -= x * fraction(amount)
        lines.append(row)
        right.append((1 - x) * weighed(c, course.pay(k, move)))
    return solve(lines, right)


def inner_ratios(low, high):
    """Some ratios between two ends, also near to them."""
    middle = between(low, high)
    near, far = between(low, middle), between(middle, high)
    return [middle, near, far, between(low, near), between(far, high)]


class PieceCase(CheckCase):
    def check_pieces(self, course, c):
        lettered = course.lettered
        found = (error_pieces if lettered else patience_pieces)(course, c)
        self.assertIs(type(found), tuple)
        self.check_stretches(found, (0, 1), (1, 1))
        for piece in found:
            self.assertIsInstance(piece, Piece)
            self.assertIs(type(piece.parts), tuple)
            self.check_stretches(piece.parts, piece.low, piece.high)
            for part in piece.parts:
                self.assertIsInstance(part, ErrorPart if lettered else Part)
                self.check_part(course, c, part)
                spots = part.gains if lettered else part.spots
                total = Quotient(())
                for amount, spot in zip(course.start, spots):
                    total = total + as_quotient(amount) * spot
                self.assertEqual(total, piece.worth)
        for one, other in zip(found, found[1:]):
            self.assertNotEqual(one.worth, other.worth)
            self.assertEqual(sign_at((one.worth - other.worth).top, one.high), 0)
        self.assertIs(pieces_hold(course, c, found), True)
        again = (error_pieces if lettered else patience_pieces)(course, c)
        self.assertEqual(shown(again), shown(found))
        return found

    def check_stretches(self, items, low, high):
        self.assertEqual(compared(items[0].low, low), 0)
        self.assertEqual(compared(items[-1].high, high), 0)
        for item in items:
            self.assertLess(compared(item.low, item.high), 0)
            for end in (item.low, item.high):
                if isinstance(end, Border):
                    self.assertIsNone(end.ratio)
                else:
                    self.check_ratio(end)
        for one, other in zip(items, items[1:]):
            self.assertEqual(compared(one.high, other.low), 0)

    def check_part(self, course, c, part):
        """The rows of [62] or [63], for all moves: as Quotients for the
        choice, else at ratios near the ends and between, and at roots."""
        self.assertEqual((type(part.choice), len(part.choice)), (tuple, len(course.standings)))
        ratios = inner_ratios(part.low, part.high)
        for k, own in enumerate(part.choice):
            for move in course.moves(k):
                if course.lettered:
                    first = part.gains[k] - drawn(course, k, move, part.gains)
                    second = part.gains[k] + part.rests[k] - direct(course, k, move, c) - drawn(course, k, move, part.rests)
                    losses = [first, second]
                else:
                    losses = [part.spots[k] - (ONE - E) * direct(course, k, move, c) - E * drawn(course, k, move, part.spots)]
                if move == own:
                    self.assertEqual(losses, [Quotient(())] * len(losses))
                for ratio in ratios:
                    told = [loss.at(ratio)[0] for loss in losses]
                    self.assertGreaterEqual(told[0], 0)
                    if len(told) == 2 and told[0] == 0:
                        self.assertGreaterEqual(told[1], 0)
                if len(losses) == 2 and losses[0].top:
                    for root in roots_within(losses[0].top, part.low, part.high):
                        self.assertGreaterEqual(sign_at(losses[1].top, root) * sign_at(losses[1].bottom, root), 0)


def shown(value):
    """All that is told by pieces, but how Borders are told."""
    if isinstance(value, tuple):
        return [shown(item) for item in value]
    if isinstance(value, (Piece, Part, ErrorPart)):
        return [type(value).__name__] + [shown(item) for item in vars(value).values()]
    if isinstance(value, Quotient):
        return (value.top, value.bottom)
    if isinstance(value, Border):
        return (value.row, value.low, value.high)
    return value


class PatienceTest(PieceCase):
    def test_against_all_choices(self):
        chance = random.Random(1)
        seen = set()
        done = 0
        while done < 40:
            course = drawn_course(chance) if done % 3 == 0 else rich_course(chance, most=chance.choice([1, 2]))
            if many_choices(course) <= 32:
                done += 1
                c = (chance.randint(-2, 2), (chance.choice([-3, -1, 1, 2]), chance.randint(1, 3)))
                found = self.check_pieces(course, c)
                seen.add((len(found), any(isinstance(piece.low, Border) for piece in found)))
                for x in (Fraction(1, 100), Fraction(2, 5), Fraction(19, 20)):
                    spots = [max(column) for column in zip(*[patience_at(course, choice, c, x) for choice in all_choices(course)])]
                    best = sum(fraction(a) * spot for a, spot in zip(course.start, spots))
                    self.assertEqual(worth_in(found, pair(x)), pair(best))
                most = max(weighed(c, course.pay(0, move)) for move in course.moves(0)) if course.start[0] == (1, 1) else None
                if most is not None:
                    self.assertEqual(found[0].worth.at(0), pair(most))
                self.assertEqual(found[-1].worth.at(1), greatest_mean(course, c).worth)
        self.assertTrue(any(border for _, border in seen), seen)
        self.assertGreaterEqual(max(many for many, _ in seen), 3)

    def test_a_piece(self):
        # To be angry for good costs 2 a round, and pays 2 once.
        course = Course(Plan(TABLE, ANGRY))
        one, other = self.check_pieces(course, (0, 1))
        self.assertEqual((one.low, one.high, other.low, other.high), ((0, 1), (1, 2), (1, 2), (1, 1)))
        self.assertEqual((one.worth, other.worth), (Quotient((5, -4)), Quotient((3,))))
        self.assertEqual([part.choice for piece in (one, other) for part in piece.parts], [("d", "d"), ("c", "d")])
        self.assertEqual(one.parts[0].spots, (Quotient((5, -4)), Quotient((1,))))
        self.assertEqual(worth_in((one, other), (1, 2)), (3, 1))
        self.assertEqual(worth_in((one, other), (2, 8)), (4, 1))
        for value in NO_INNER:
            self.check_error(BadNumber, ("at", value), worth_in, (one, other), value)

    def test_larger_courses(self):
        chance = random.Random(2)
        for _ in range(4):
            self.check_pieces(rich_course(chance, states=9, most=2), (chance.randint(-1, 1), 1))

    def test_rulebooks(self):
        book = Rulebook(TABLE, "state r q\nbar q * d\nbar r * c\ngo r * * * * q\ngo q * * c *.c r\n")
        course = Course(Plan(TABLE, ANGRY), book)
        self.check_pieces(course, (0, 1))
        self.check_pieces(course, (-1, (1, 3)))

    def test_errors(self):
        for course in LETTERED:
            for value in [(1, 0), None, (0, 0)]:
                self.check_error(HasLetter, (), patience_pieces, course, value)
        course = Course(Plan(TABLE, ANGRY))
        for value in NO_DIRECTIONS:
            self.check_error(BadNumber, ("direction", value), patience_pieces, course, value)
            self.check_error(BadNumber, ("direction", value), pieces_hold, course, value, None)
            self.check_error(BadNumber, ("direction", value), worth_of, course, None, value)
            self.check_error(BadNumber, ("direction", value), order_of, course, None, 1, value)
        self.assertEqual(shown(patience_pieces(course, ((2, 4), -3))), shown(patience_pieces(course, ((1, 2), (-9, 3)))))


class ErrorsTest(PieceCase):
    def test_against_greatest_means(self):
        chance = random.Random(3)
        seen = set()
        done = 0
        while done < 40:
            course = drawn_course(chance, True) if done % 3 == 0 else rich_course(chance, True, most=chance.choice([1, 2]))
            if course.lettered:
                done += 1
                c = (chance.randint(-2, 2), (chance.choice([-3, -1, 1, 2]), chance.randint(1, 3)))
                found = self.check_pieces(course, c)
                seen.add((len(found), any(isinstance(piece.low, Border) for piece in found)))
                for e in (Fraction(1, 1000), Fraction(1, 3), Fraction(3, 4), Fraction(98, 99)):
                    best = greatest_mean(course.settled(pair(e)), c).worth
                    self.assertEqual(worth_in(found, pair(e)), best)
                self.assertEqual(first_error(course, c)[0], found[0].worth)
                self.assertEqual(compared(first_error(course, c)[1], found[0].high), 0)
        self.assertTrue(any(border for _, border in seen), seen)
        self.assertGreaterEqual(max(many for many, _ in seen), 3)

    def test_several_closed_sets(self):
        """Gains that are unlike, and rests that matter where they meet."""
        chance = random.Random(4)
        many = 0
        for count in range(30):
            one, other = chance.choice(["e", "1-e", "1/2*e", "1/2+1/2*e", "e^2"]), chance.choice(["1/3*e", "1-1/3*e", "1/2-1/2*e", "1-e"])
            pays = "".join(f"pay {m} {f} {chance.randint(-3, 3)} 0\n" for m in "cd" for f in "cd")
            world = World("mine c d\nfoe c d\nboard b\n" + pays)
            lines = ["state s t u v", "play s * c:1", f"play t * c:{one} d:1-{one}" if "-" not in one and "+" not in one else "play t * c:1/2*e d:1-1/2*e"]
            lines += [f"play u * c:{other} d:{complement(other)}", "play v * d:1", f"go s * * *.c t:{one} s:{complement(one)}", "go s * * *.d u:1"]
            lines += ["go v * * * t:1/2 u:1/2", "go t * d *.d v:1" if count % 2 else "go u * c *.c v:1"]
            course = Course(Plan(world, "\n".join(lines)))
            found = self.check_pieces(course, (1, 0))
            many = max(many, len(found))
            for e in (Fraction(1, 7), Fraction(5, 8)):
                self.assertEqual(worth_in(found, pair(e)), greatest_mean(course.settled(pair(e)), (1, 0)).worth)
        self.assertGreater(many, 1)

    def test_rests_at_a_single_number(self):
        # To t leads to a mean that is (e - 1/2)^2 less than that of u: at e = 1/2
        # both are alike, and there it counts what is paid on the way.
        for bonus, parts in ((9, 2), (-9, 1)):
            world = World(f"mine c d x\nfoe c d\nboard b\npay x c {bonus} 0\npay x d 0 0\npay c * 1 0\npay d * 0 0\n")
            text = "state s t u\nplay s * x:1\nplay t * c:e-e^2 d:1-e+e^2\nplay u * c:1/4 d:3/4\ngo s * * *.c t:1\ngo s * * *.d u:1\n"
            course = Course(Plan(world, text))
            found = self.check_pieces(course, (1, 0))
            self.assertEqual((len(found), found[0].worth), (1, quotient((1, 4))))
            self.assertEqual(len(found[0].parts), parts)
            part = found[0].parts[0]
            joined = (Piece((0, 1), (1, 1), found[0].worth, [ErrorPart((0, 1), (1, 1), part.choice, part.gains, part.rests)]),)
            self.assertIs(pieces_hold(course, (1, 0), joined), parts == 1)
            halves = [ErrorPart(low, high, part.choice, part.gains, part.rests) for low, high in (((0, 1), (1, 2)), ((1, 2), (1, 1)))]
            self.assertIs(pieces_hold(course, (1, 0), (Piece(0, 1, found[0].worth, halves),)), True)

    def test_rests_that_are_alike_at_a_single_number(self):
        # At e = 1/2 the way to t pays as much as the other one: that is no gain.
        world = World("mine c d x z\nfoe c d\nboard b\npay * * 0 0\npay x c 1 0\npay z c -1 0\npay c * 1 0\n")
        text = "state s t u\nplay s * x:e z:1-e\nplay t * c:e-e^2 d:1-e+e^2\nplay u * c:1/4 d:3/4\ngo s * * *.c t:1\ngo s * * *.d u:1\n"
        course = Course(Plan(world, text))
        found = self.check_pieces(course, (1, 0))
        self.assertEqual((len(found), found[0].worth), (1, quotient((1, 4))))
        part = found[0].parts[0]
        joined = (Piece(0, 1, found[0].worth, [ErrorPart(0, 1, part.choice, part.gains, part.rests)]),)
        self.assertIs(pieces_hold(course, (1, 0), joined), True)
        # At other numbers it pays more, or less, but leads to a lesser mean.
        changed_rest = at_place(part.rests, course.standings.index(("b", "t")), part.rests[1] + Quotient((1,), (10 ** 30,)))
        joined = (Piece(0, 1, found[0].worth, [ErrorPart(0, 1, part.choice, part.gains, changed_rest)]),)
        self.assertIs(pieces_hold(course, (1, 0), joined), False)

    def test_small_errors(self):
        # Without errors the plan forgives nothing; with any error it is never angry for long.
        plan = Plan(TABLE, "state nice angry\nplay nice * c:1-e d:e\nplay angry * d:1-e c:e\ngo nice * * *.d angry:1\ngo angry * * *.c nice:1\n")
        found = self.check_pieces(Course(plan), (0, 1))
        worth, end = first_error(Course(plan), (0, 1))
        self.assertEqual((worth, compared(end, found[0].high)), (found[0].worth, 0))
        for course in LETTERED:
            found = self.check_pieces(course, (1, -1))
            self.assertEqual(len(found), 1)
            self.assertEqual(first_error(course, (1, -1)), (found[0].worth, (1, 1)))

    def test_larger_courses(self):
        chance = random.Random(5)
        for _ in range(3):
            self.check_pieces(rich_course(chance, True, states=8, most=2), (chance.randint(-1, 1), 1))

    def test_errors(self):
        course = Course(Plan(TABLE, ANGRY))
        for call in (error_pieces, first_error):
            for value in [(1, 0), None, (0, 0)]:
                self.check_error(NoLetter, (), call, course, value)
            for lettered in LETTERED:
                for value in NO_DIRECTIONS:
                    self.check_error(BadNumber, ("direction", value), call, lettered, value)
        for lettered in LETTERED:
            for value in NO_DIRECTIONS:
                self.check_error(BadNumber, ("direction", value), pieces_hold, lettered, value, ())


def complement(text):
    """One less a chance, as a text."""
    table = {"e": "1-e", "1-e": "e", "1/2*e": "1-1/2*e", "1/2+1/2*e": "1/2-1/2*e", "e^2": "1-e^2", "1/3*e": "1-1/3*e", "1-1/3*e": "1/3*e", "1/2-1/2*e": "1/2+1/2*e"}
    return table[text]


def changed(part, **named):
    """A part with some of its attributes told anew."""
    told = {**vars(part), **named}
    return type(part)(*[told[name] for name in vars(part)])


def at_place(items, k, *others):
    return items[:k] + others + items[k + 1:]


class HoldTest(PieceCase):
    def setUp(self):
        chance = random.Random(6)
        self.cases = []
        wanted = {True: 3, False: 3}
        while any(wanted.values()):
            letter = chance.random() < 0.5
            if wanted[letter]:
                course = rich_course(chance, letter, most=2)
                c = (chance.randint(-1, 1), 1)
                pieces = (error_pieces if letter else patience_pieces)(course, c)
                if len(pieces) > 1 and any(isinstance(piece.high, Border) for piece in pieces):
                    wanted[letter] -= 1
                    self.cases.append((course, c, pieces))

    def check_false(self, course, c, pieces):
        self.assertIs(pieces_hold(course, c, pieces), False)

    def test_other_ways_to_tell_them(self):
        for course, c, pieces in self.cases:
            for k, piece in enumerate(pieces):
                for j, part in enumerate(piece.parts):
                    middle = between(part.low, part.high)
                    parts = at_place(piece.parts, j, changed(part, high=middle), changed(part, low=middle))
                    cut = at_place(pieces, k, changed(piece, parts=parts))
                    self.assertIs(pieces_hold(course, c, cut), True)
                    gap = between(middle, part.high)
                    parts = at_place(piece.parts, j, changed(part, high=middle), changed(part, low=gap))
                    self.check_false(course, c, at_place(pieces, k, changed(piece, parts=parts)))
                    parts = at_place(piece.parts, j, changed(part, high=gap), changed(part, low=middle))
                    self.check_false(course, c, at_place(pieces, k, changed(piece, parts=parts)))
            told = tuple(
                Piece(other_end(piece.low), other_end(piece.high), piece.worth, [changed(part, low=other_end(part.low), high=other_end(part.high)) for part in piece.parts])
                for piece in pieces
            )
            self.assertIs(pieces_hold(course, c, told), True)
            scaled = (2 * c[0], (4 * c[1], 2))
            self.assertIs(pieces_hold(course, scaled, pieces), False)
            self.assertIs(pieces_hold(course, ((2 * c[0], 2), (3, 3)), pieces), True)

    def test_changed_ends(self):
        for course, c, pieces in self.cases:
            for k in range(1, len(pieces)):
                one, other = pieces[k - 1], pieces[k]
                for end in (between(one.low, one.high), between(other.low, other.high), beside(one.high, -1), beside(one.high, 1)):
                    moved = at_place(pieces, k - 1, changed(one, high=end, parts=at_end(one.parts, end)))
                    moved = at_place(moved, k, changed(other, low=end, parts=at_begin(other.parts, end)))
                    self.check_false(course, c, moved)
                # The ends of a piece without those of its parts, or of one piece alone.
                end = between(one.low, one.high)
                self.check_false(course, c, at_place(pieces, k - 1, changed(one, high=end)))
                self.check_false(course, c, at_place(pieces, k - 1, changed(one, parts=at_end(one.parts, end))))
                self.check_false(course, c, at_place(pieces, k - 1, changed(one, high=end, parts=at_end(one.parts, end))))
                # A low end that is the high end.
                self.check_false(course, c, at_place(pieces, k, changed(other, low=other.high)))
            first, last = pieces[0], pieces[-1]
            self.check_false(course, c, (changed(first, low=(1, 10 ** 30), parts=at_begin(first.parts, (1, 10 ** 30))), *pieces[1:]))
            near = (10 ** 30 - 1, 10 ** 30)
            self.check_false(course, c, (*pieces[:-1], changed(last, high=near, parts=at_end(last.parts, near))))

    def test_changed_numbers(self):
        small = Quotient((1,), (10 ** 30,))
        for course, c, pieces in self.cases:
            letter = course.lettered
            for k, piece in enumerate(pieces):
                for change in (small, -small, E * small):
                    self.check_false(course, c, at_place(pieces, k, changed(piece, worth=piece.worth + change)))
                self.check_false(course, c, at_place(pieces, k, changed(piece, worth=Quotient(()))) if piece.worth.top else ())
                for j, part in enumerate(piece.parts):
                    for name in ("gains", "rests") if letter else ("spots",):
                        spots = getattr(part, name)
                        for at in range(len(spots)):
                            for change in (small, -small, Quotient((0, 1, -1), (10 ** 20,)), ONE):
                                if len(spots) > 1 or name != "rests":
                                    told = changed(part, **{name: at_place(spots, at, spots[at] + change)})
                                    self.check_false(course, c, at_place(pieces, k, changed(piece, parts=at_place(piece.parts, j, told))))
                        for told in (spots[1:], (*spots, spots[0]), (), (*spots[:-1], None), (*spots[:-1], (1, 1)), None):
                            told = changed(part, **{name: told})
                            self.check_false(course, c, at_place(pieces, k, changed(piece, parts=at_place(piece.parts, j, told))))
                    wrong = [part.choice[1:], (*part.choice, "c"), (), ("x", *part.choice[1:]), (*part.choice[:-1], None), None]
                    wrong += [at_place(part.choice, at, "d" if part.choice[at] == "c" else "c") for at in range(len(part.choice))]
                    for choice in wrong:
                        told = at_place(piece.parts, j, changed(part, choice=choice))
                        if not self.is_best(course, c, changed(part, choice=choice)):
                            self.check_false(course, c, at_place(pieces, k, changed(piece, parts=told)))

    def is_best(self, course, c, part):
        """Whether another choice has the same Quotients."""
        if not part.choice or len(part.choice) != len(course.standings) or not all(move in ("c", "d") for move in part.choice):
            return False
        spots = part.gains if course.lettered else part.spots
        for k, move in enumerate(part.choice):
            told = drawn(course, k, move, spots)
            if course.lettered:
                rests = part.gains[k] + part.rests[k] == direct(course, k, move, c) + drawn(course, k, move, part.rests)
                if told != spots[k] or not rests:
                    return False
            elif spots[k] != (ONE - E) * direct(course, k, move, c) + E * told:
                return False
        return True

    def test_rests_that_are_moved_together(self):
        for course, c, pieces in self.cases:
            if course.lettered:
                told = tuple(
                    changed(piece, parts=[changed(part, rests=[rest + Quotient((3, 1), (7, 1)) for rest in part.rests]) for part in piece.parts])
                    for piece in pieces
                )
                self.assertIs(pieces_hold(course, c, told), True)
                # A bottom with a root within a stretch is none, though it divides out.
                piece = pieces[0]
                root = between(piece.parts[0].low, piece.parts[0].high)
                pole = Quotient((1,), (-root[0], root[1]))
                part = changed(piece.parts[0], rests=[rest + pole for rest in piece.parts[0].rests])
                self.check_false(course, c, (changed(piece, parts=(part, *piece.parts[1:])), *pieces[1:]))
                # At the end of the stretch it may be.
                pole = Quotient((1,), (0, 1))
                part = changed(piece.parts[0], rests=[rest + pole for rest in piece.parts[0].rests])
                self.assertIs(pieces_hold(course, c, (changed(piece, parts=(part, *piece.parts[1:])), *pieces[1:])), True)

    def test_pieces_left_out(self):
        for course, c, pieces in self.cases:
            for k, piece in enumerate(pieces):
                self.check_false(course, c, at_place(pieces, k))
                self.check_false(course, c, at_place(pieces, k, piece, piece))
                self.check_false(course, c, at_place(pieces, k, changed(piece, parts=())))
                self.check_false(course, c, at_place(pieces, k, changed(piece, parts=piece.parts + piece.parts)))
                self.check_false(course, c, at_place(pieces, k, None))
                self.check_false(course, c, at_place(pieces, k, piece.parts[0]))
                middle = between(piece.low, piece.high)
                if len(piece.parts) == 1:
                    part = piece.parts[0]
                    halves = [Piece(piece.low, middle, piece.worth, [changed(part, high=middle)]), Piece(middle, piece.high, piece.worth, [changed(part, low=middle)])]
                    self.check_false(course, c, at_place(pieces, k, *halves))
            for value in [None, (), [], list(pieces), pieces[0], pieces[0].parts, 1, "pieces", {}, (None,), pieces[::-1], pieces + pieces, (pieces,)]:
                self.check_false(course, c, value)
            self.check_false(course, (c[1], c[0] + 5), pieces)

    def test_stretches_without_numbers(self):
        for course, c, pieces in self.cases:
            for k, piece in enumerate(pieces):
                part = piece.parts[0]
                middle = between(part.low, part.high)
                far = between(middle, part.high)
                for ends in ((middle, middle), (far, middle), (part.high,), (part.low,)):
                    places = [part.low, *ends, part.high]
                    parts = [changed(part, low=low, high=high) for low, high in zip(places, places[1:])]
                    self.check_false(course, c, at_place(pieces, k, changed(piece, parts=(*parts, *piece.parts[1:]))))
                none = Piece(piece.high, piece.high, ONE, [changed(part, low=piece.high, high=piece.high)])
                self.check_false(course, c, pieces[:k + 1] + (none,) + pieces[k + 1:])
                self.check_false(course, c, at_place(pieces, k, changed(piece, worth=None)))
                self.check_false(course, c, at_place(pieces, k, changed(piece, low=None)))
                self.check_false(course, c, at_place(pieces, k, changed(piece, parts=None)))

    def test_parts_of_the_other_kind(self):
        for course, c, pieces in self.cases:
            told = []
            for piece in pieces:
                if course.lettered:
                    parts = [Part(part.low, part.high, part.choice, part.gains) for part in piece.parts]
                else:
                    parts = [ErrorPart(part.low, part.high, part.choice, part.spots, part.spots) for part in piece.parts]
                told.append(changed(piece, parts=parts))
            self.check_false(course, c, tuple(told))

    def test_a_barred_move(self):
        text = "state s\nplay s * c:1\n"
        free = Course(Plan(TABLE, text))
        bound = Course(Plan(TABLE, text), Rulebook(TABLE, "state r\nbar r * d\n"))
        pieces = patience_pieces(free, (0, 1))
        self.assertEqual(pieces[0].parts[0].choice, ("d",))
        self.assertIs(pieces_hold(free, (0, 1), pieces), True)
        self.check_false(bound, (0, 1), pieces)
        self.assertIs(pieces_hold(bound, (0, 1), patience_pieces(bound, (0, 1))), True)
        self.check_false(free, (0, 1), patience_pieces(bound, (0, 1)))

    def test_by_hand(self):
        part = Part(0, (2, 4), ["c"], [ONE])
        self.assertEqual((part.low, part.high, part.choice, part.spots), (0, (2, 4), ("c",), (ONE,)))
        part = ErrorPart(0, (2, 4), ["c"], [ONE], [E])
        self.assertEqual((part.low, part.high, part.choice, part.gains, part.rests), (0, (2, 4), ("c",), (ONE,), (E,)))
        parts = [part]
        piece = Piece(0, (2, 4), E, parts)
        parts.append(part)
        self.assertEqual((piece.low, piece.high, piece.worth, piece.parts), (0, (2, 4), E, (part,)))


def other_end(end):
    """The end, told in another way."""
    if isinstance(end, Border):
        near = narrowed(end, (1, 10 ** 9))
        row = tuple(-3 * item for item in end.row)
        return Border(row, near.low, near.high)
    top, bottom = end
    if end in ((0, 1), (1, 1)):
        return top
    return Border((top * 7, -bottom * 7), (0, 1), (2, 1))


def beside(end, sign):
    """A ratio just below or above an end."""
    if isinstance(end, Border):
        near = narrowed(end, (1, 10 ** 30))
        return near.low if sign < 0 else near.high
    return pair(fraction(end) + Fraction(sign, 10 ** 30))


def at_end(parts, end):
    """The parts up to another end."""
    kept = [part for part in parts if compared(part.low, end) < 0]
    return tuple(kept[:-1]) + (changed(kept[-1], high=end),) if kept else (changed(parts[0], high=end),)


def at_begin(parts, end):
    kept = [part for part in parts if compared(end, part.high) < 0]
    return (changed(kept[0], low=end),) + tuple(kept[1:]) if kept else (changed(parts[-1], low=end),)


class ChoiceTest(PieceCase):
    def test_worths_of_choices(self):
        chance = random.Random(7)
        for count in range(50):
            course = drawn_course(chance, count % 2 == 1)
            c = (chance.randint(-2, 2), (chance.choice([-3, -1, 1, 2]), chance.randint(1, 3)))
            choice = tuple(chance.choice(course.moves(k)) for k in range(len(course.standings)))
            found = worth_of(course, choice, c)
            self.assertIsInstance(found, Quotient)
            self.assertEqual(worth_of(course, list(choice), c), found)
            for x in (Fraction(1, 9), Fraction(7, 8)):
                if course.lettered:
                    mean = start_mean(course.settled(pair(x)), choice)
                    expected = fraction(c[0]) * mean[0] + fraction(c[1]) * mean[1]
                else:
                    expected = sum(fraction(a) * b for a, b in zip(course.start, patience_at(course, choice, c, x)))
                self.assertEqual(found.at(pair(x)), pair(expected))

    def check_order(self, course, one, other, c):
        found = order_of(course, one, other, c)
        self.assertIs(type(found), tuple)
        difference = worth_of(course, one, c) - worth_of(course, other, c)
        if not difference.top:
            self.assertEqual(found, (((0, 1), (1, 1), 0),))
            return found
        self.assertEqual((found[0][0], found[-1][1]), ((0, 1), (1, 1)))
        roots = roots_within(difference.top, 0, 1)
        self.assertEqual(len(found), len(roots) + 1)
        for (low, high, sign), root in zip(found, [*roots, (1, 1)]):
            self.assertEqual(compared(high, root), 0)
            for ratio in inner_ratios(low, high):
                self.assertEqual(difference.at(ratio)[0] > 0, sign > 0)
                self.assertIn(sign, (1, -1))
        for one_part, other_part in zip(found, found[1:]):
            self.assertEqual(compared(one_part[1], other_part[0]), 0)
        return found

    def test_orders_of_drawn_choices(self):
        chance = random.Random(8)
        longest = 0
        for count in range(60):
            course = rich_course(chance, count % 2 == 1, most=2) if count % 3 else drawn_course(chance, count % 2 == 1)
            c = (chance.randint(-2, 2), chance.choice([-1, 1, 2]))
            one, other = [tuple(chance.choice(course.moves(k)) for k in range(len(course.standings))) for _ in range(2)]
            found = self.check_order(course, one, other, c)
            self.assertEqual([-sign for _, _, sign in found], [sign for _, _, sign in order_of(course, list(other), one, c)])
            longest = max(longest, len(found))
            self.assertEqual(order_of(course, one, one, c), (((0, 1), (1, 1), 0),))
        self.assertGreater(longest, 1)

    def planted(self, text):
        """A course with e whose choices of c and d differ by a polynomial: d
        pays 1 with the chance of the text, c with the chance 1/2."""
        world = World("mine c d\nfoe c d\nboard b\npay c c 1 0\npay c d 0 0\npay d c 0 0\npay d d 0 0\n")
        plan = Plan(world, f"state s t u\nplay s * d:1\nplay t * c:{text} d:1-{text}\nplay u * c:1/2 d:1/2\ngo s * * *.c t:1\ngo s * * *.d u:1\n")
        return Course(plan)

    def test_planted_roots(self):
        # The chance of t less 1/2 has these roots.
        cases = [
            ("e", [Fraction(1, 2)], [-1, 1]),
            ("e^2", [None], [-1, 1]),
            ("1/2*e", [], [-1]),
        ]
        for text, roots, signs in cases:
            course = self.planted(text)
            self.assertEqual(len(course.standings), 3)
            found = order_of(course, ("c", "c", "c"), ("d", "c", "c"), (1, 0))
            self.assertEqual([sign for _, _, sign in found], signs)
            for (_, high, _), root in zip(found, roots):
                if root is None:
                    self.assertIsInstance(high, Border)
                    self.assertEqual(compared(high, roots_within((-1, 0, 2), 0, 1)[0]), 0)
                else:
                    self.assertEqual(high, pair(root))
        # A double root: 1/2 - (e - 1/3)^2 touches 1/2.
        world = World("mine c d\nfoe c d\nboard b\npay c c 1 0\npay c d 0 0\npay d * 0 0\n")
        plan = Plan(world, "state s t u\nplay s * d:1\nplay t * c:7/18+2/3*e-e^2 d:11/18-2/3*e+e^2\nplay u * c:1/2 d:1/2\ngo s * * *.c t:1\ngo s * * *.d u:1\n")
        course = Course(plan)
        found = self.check_order(course, ("c", "c", "c"), ("d", "c", "c"), (1, 0))
        self.assertEqual(found, (((0, 1), (1, 3), -1), ((1, 3), (1, 1), -1)))
        patient = Course(Plan(TABLE, ANGRY))
        self.assertEqual(self.check_order(patient, ("d", "d"), ("c", "d"), (0, 1)), (((0, 1), (1, 2), 1), ((1, 2), (1, 1), -1)))
        self.assertEqual(order_of(patient, ("c", "d"), ("c", "c"), (0, 1)), (((0, 1), (1, 1), 0),))

    def test_wrong_choices(self):
        for course in (Course(Plan(TABLE, ANGRY)), Course(trembled(TABLE, Plan(TABLE, ANGRY)))):
            good = ("c", "c")
            for value, place in [(None, 0), ("cc", 0), ((), 0), (("c",), 1), (("c", "x"), 1), (("x", "c"), 0), (("c", "c", "c"), 2), (["c", None], 1), (1, 0)]:
                self.check_error(BadChoice, (place,), worth_of, course, value, (0, 1))
                self.check_error(BadChoice, (place,), order_of, course, value, (), (0, 1))
                self.check_error(BadChoice, (place,), order_of, course, good, value, (0, 1))
                self.check_error(BadNumber, ("direction", (0, 0)), worth_of, course, value, (0, 0))
                self.check_error(BadNumber, ("direction", (0, 0)), order_of, course, value, value, (0, 0))
        self.check_error(BadChoice, (1,), order_of, course, ("c", "x"), ("x", "x"), (0, 1))
        bound = Course(Plan(TABLE, ANGRY), Rulebook(TABLE, "state r\nbar r * d\n"))
        self.check_error(BadChoice, (0,), worth_of, bound, ("d",), (0, 1))
        self.assertEqual(worth_of(bound, ("c",), (0, 1)), Quotient((3,)))


if __name__ == "__main__":
    unittest.main()
