import random
import unittest
from fractions import Fraction

from everyfoe.arcs import Arc, ArcPart, arcs
from everyfoe.borders import Border, between, compared, roots_within
from everyfoe.games import greatest_least
from everyfoe.quotients import Quotient
from everyfoe.rows import row_product, row_sum, row_times
from everyfoe.signs import sign_within
from everyfoe.worlds import world_of
from tests.helper import CheckCase, fraction, pair
from tests.making import drawn_table
from tests.test_games import PENNIES

AXES = ((1, 0), (0, 1), (-1, 0), (0, -1))


def direction(quarter, place):
    """The direction at a Fraction of a quarter."""
    start = AXES[quarter]
    end = AXES[(quarter + 1) % 4]
    return tuple([pair((1 - place) * one + place * other) for one, other in zip(start, end)])


def ends_of(found):
    """What arcs are determined by: places as narrow stretches, and worths."""
    out = []
    for quarter in found:
        out.append([(arc.low, arc.high, arc.worth) for arc in quarter])
    return out


class ArcsTest(CheckCase):
    def same_arcs(self, one, other):
        for first, second in zip(ends_of(one), ends_of(other)):
            self.assertEqual(len(first), len(second))
            for (low, high, worth), (start, end, level) in zip(first, second):
                self.assertEqual((compared(low, start), compared(high, end)), (0, 0))
                self.assertEqual(worth, level)

    def item_rows(self, world, quarter):
        """The worths of all pays in a quarter, as Quotients in t."""
        found = []
        for mine in world.mine:
            line = []
            for foe in world.foe:
                a, b = [fraction(part) for part in world.pay(world.boards[0], mine, foe)]
                first, last = [axis[0] * a + axis[1] * b for axis in (AXES[quarter], AXES[(quarter + 1) % 4])]
                bottom = first.denominator * last.denominator
                top = row_sum(row_times((1, -1), int(first * bottom)), row_times((0, 1), int(last * bottom)))
                line.append(Quotient(top, (bottom,)))
            found.append(line)
        return found

    def never_below(self, quotient, low, high):
        """The quotient is nowhere below 0 strictly between two ends."""
        row = row_product(quotient.top, quotient.bottom)
        self.assertIsNotNone(sign_within(quotient.bottom, low, high))
        if row:
            ends = [low, *roots_within(row, low, high), high]
            for start, end in zip(ends, ends[1:]):
                place = between(start, end)
                self.assertGreaterEqual(quotient.at(place)[0], 0)

    def check_part(self, part, worth, items):
        self.assertIsInstance(part, ArcPart)
        self.assertEqual(compared(part.low, part.high), -1)
        for mixture, many in ((part.mixture, len(items)), (part.against, len(items[0]))):
            self.assertIs(type(mixture), tuple)
            self.assertEqual(len(mixture), many)
            total = Quotient(())
            for share in mixture:
                self.assertIsInstance(share, Quotient)
                self.never_below(share, part.low, part.high)
                total = total + share
            self.assertEqual(total, Quotient((1,)))
        for j in range(len(items[0])):
            total = Quotient(())
            for share, line in zip(part.mixture, items):
                total = total + share * line[j]
            self.never_below(total - worth, part.low, part.high)
        for line in items:
            total = Quotient(())
            for share, item in zip(part.against, line):
                total = total + share * item
            self.never_below(worth - total, part.low, part.high)

    def check_row(self, items):
        """The stretches of arcs, or of their parts, follow each other."""
        for one, other in zip(items, items[1:]):
            self.assertEqual(compared(one.high, other.low), 0)

    def check_end(self, end):
        if isinstance(end, Border):
            self.assertIsNone(end.ratio)
        else:
            self.check_ratio(end)

    def check_worth(self, arc, quarter, world):
        places = [between(arc.low, arc.high)]
        places.append(between(arc.low, places[0]))
        places.append(between(places[0], arc.high))
        for end in (arc.low, arc.high):
            self.check_end(end)
            if not isinstance(end, Border):
                places.append(end)
        for place in places:
            level = greatest_least(world, direction(quarter, fraction(place)))
            self.assertEqual(arc.worth.at(place), level.worth)

    def check_arcs(self, world):
        found = arcs(world)
        self.assertIs(type(found), tuple)
        self.assertEqual(len(found), 4)
        for quarter in range(4):
            row = found[quarter]
            self.assertIs(type(row), tuple)
            self.assertEqual((row[0].low, row[-1].high), ((0, 1), (1, 1)))
            self.check_row(row)
            items = self.item_rows(world, quarter)
            for one, other in zip(row, row[1:]):
                self.assertFalse(one.worth == other.worth)
            for arc in row:
                self.assertIsInstance(arc, Arc)
                self.assertEqual(compared(arc.low, arc.high), -1)
                self.check_worth(arc, quarter, world)
                self.assertIs(type(arc.parts), tuple)
                self.assertEqual(compared(arc.parts[0].low, arc.low), 0)
                self.assertEqual(compared(arc.parts[-1].high, arc.high), 0)
                self.check_row(arc.parts)
                for part in arc.parts:
                    self.check_part(part, arc.worth, items)
        return found

    def test_drawn_worlds(self):
        chance = random.Random(1)
        borders = 0
        for k in range(45):
            mine, foe = chance.choice(((1, 1), (2, 2), (3, 3), (2, 3), (4, 2), (2, 4), (1, 4), (3, 1)))
            found = self.check_arcs(drawn_table(chance, mine, foe, k % 3, k % 2))
            borders += sum(isinstance(arc.low, Border) for quarter in found for arc in quarter)
        self.assertGreater(borders, 0)

    def test_four_moves_on_both_sides(self):
        chance = random.Random(2)
        self.check_arcs(drawn_table(chance, 4, 4, 1))
        self.check_arcs(drawn_table(chance, 4, 4, 0))

    def test_all_four_moves_are_mixed(self):
        pays = [[(0, 0)] * 4 for _ in range(4)]
        for k in range(4):
            pays[k][k] = (k + 1, 5 - k)
        found = self.check_arcs(world_of(list("abcd"), list("wxyz"), pays))
        part = found[0][0].parts[0]
        place = between(part.low, part.high)
        self.assertTrue(all(share.at(place)[0] > 0 for share in part.mixture))
        self.assertEqual(len(found[0]), 1)

    def test_known_arcs(self):
        found = self.check_arcs(PENNIES)
        for quarter in found:
            self.assertEqual([(arc.low, arc.high, arc.worth.top) for arc in quarter], [((0, 1), (1, 1), ())])
        world = world_of(["a", "b"], ["x"], [[(1, 0)], [(0, 2)]])
        found = self.check_arcs(world)
        ends = [(arc.low, arc.high, arc.worth.top) for arc in found[0]]
        self.assertEqual(ends, [((0, 1), (1, 3), (1, -1)), ((1, 3), (1, 1), (0, 2))])

    def test_an_end_that_is_no_ratio(self):
        world = world_of(["a", "b"], ["x", "y"], [[(1, 0), (0, 1)], [(0, 2), (2, 0)]])
        found = self.check_arcs(world)
        ends = [arc.high for arc in found[0]]
        self.assertEqual(ends[-1], (1, 1))
        world = world_of(["a", "b", "m"], ["x", "y"], [[(1, 0), (0, 1)], [(0, 1), (1, 0)], [((1, 3), (1, 3))] * 2])
        self.check_arcs(world)

    def test_order_and_copies_of_moves_change_no_arc(self):
        chance = random.Random(3)
        for _ in range(8):
            world = drawn_table(chance, 3, 3, 1)
            pays = [[world.pay("b", one, other) for other in world.foe] for one in world.mine]
            found = arcs(world)
            turned = [row[::-1] for row in pays[::-1]]
            self.same_arcs(found, self.check_arcs(world_of(list("abc"), list("xyz"), turned)))
            twice = [row + row[:1] for row in pays]
            twice.append(twice[1])
            self.same_arcs(found, self.check_arcs(world_of(list("abcd"), list("wxyz"), twice)))

    def test_a_table_times_three(self):
        chance = random.Random(4)
        world = drawn_table(chance, 3, 3, 1)
        pays = [[world.pay("b", one, other) for other in world.foe] for one in world.mine]
        more = [[tuple([pair(3 * fraction(part)) for part in item]) for item in row] for row in pays]
        grown = self.check_arcs(world_of(list("abc"), list("xyz"), more))
        for one, other in zip(arcs(world), grown):
            self.assertEqual(len(one), len(other))
            for first, second in zip(one, other):
                self.assertEqual(compared(first.high, second.high), 0)
                self.assertEqual(first.worth * 3, second.worth)

    def test_large_numbers(self):
        self.check_arcs(drawn_table(random.Random(5), 3, 3, 40, 12))

    def test_directions_are_met(self):
        world = drawn_table(random.Random(6), 3, 3, 1)
        found = arcs(world)
        for c in ((2, 3), (-1, 4), (-5, -2), (3, -7)):
            quarter = 0 if c[0] > 0 and c[1] > 0 else 1 if c[1] > 0 else 2 if c[0] < 0 else 3
            size = abs(c[0]) + abs(c[1])
            place = Fraction(abs(c[1]) if quarter in (0, 2) else abs(c[0]), size)
            worths = [arc.worth.at(pair(place)) for arc in found[quarter] if self.holds(arc, pair(place))]
            self.assertTrue(worths)
            for worth in worths:
                self.assertEqual(fraction(worth) * size, fraction(greatest_least(world, c).worth))

    def holds(self, arc, place):
        return compared(arc.low, place) <= 0 <= compared(arc.high, place)

    def test_objects_keep_what_they_are_given(self):
        part = ArcPart((0, 2), (2, 2), [1], [2])
        arc = Arc((0, 2), (2, 2), None, [part])
        self.assertEqual((part.low, part.high, part.mixture, part.against), ((0, 2), (2, 2), (1,), (2,)))
        self.assertEqual((arc.low, arc.high, arc.worth, arc.parts), ((0, 2), (2, 2), None, (part,)))

    def test_equal_calls_tell_equal_answers(self):
        world = drawn_table(random.Random(7), 3, 3, 1)
        one = arcs(world)
        other = arcs(world)
        self.same_arcs(one, other)
        parts = [[part.mixture for arc in row for part in arc.parts] for row in one]
        self.assertEqual(parts, [[part.mixture for arc in row for part in arc.parts] for row in other])


if __name__ == "__main__":
    unittest.main()
