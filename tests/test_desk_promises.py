"""Promises of a desk, their witnesses, and questions."""

import random
import unittest
from fractions import Fraction

from everyfoe.courses import Course
from everyfoe.desk import Desk
from everyfoe.errors import BadName, BadText, HasLetter, NoName, NotKept
from everyfoe.events import Always, greatest_chance, greatest_number
from everyfoe.leads import Gaining, Lead, lead
from everyfoe.means import greatest_mean, mean_of
from everyfoe.pieces import patience_pieces
from everyfoe.polygons import polygon
from everyfoe.ratios import ratio_text
from everyfoe.zones import Zone
from tests.helper import CheckCase, fraction, pair
from tests.making import drawn_plan, drawn_world
from tests.test_desk_files import ECHO, FILE, MEEK, PRISON

TINY = Fraction(1, 10**30)
ONCE = "state a b\nplay a * c:1\nplay b * d:1\ngo a * * * b:1\n"


def text_of(number):
    return ratio_text(pair(number))


def marks_text(event):
    return " or ".join([" ".join(mark) for mark in event])


class PromisesTest(CheckCase):
    def setUp(self):
        self.desk = Desk(FILE + "plan once on pd for mine\n" + ONCE + "plan shaky on pd for mine\nstate a\nplay * * c:1-e d:e\n")

    def bad_promise(self, column, text):
        for call in (self.desk.keep, self.desk.kept):
            self.check_error(BadText, [1, column], call, text)
        self.assertEqual(self.desk.promises(), ())

    def bad_question(self, column, text):
        self.check_error(BadText, [1, column], self.desk.ask, text)

    def test_wrong_words_of_directions(self):
        for kind in ("mean", "lead"):
            right = f"echo {kind} 1 0 at most 9".split(" ")
            for k, wrong in ((0, "Echo"), (0, "*"), (0, ""), (1, "means"), (1, "polygon"), (2, "x"), (2, "1/0"), (2, "+1"),
                             (3, "*"), (3, "1."), (4, "or"), (4, "At"), (5, "least"), (6, "e"), (6, "1/-2"), (6, "9\n")):
                self.bad_promise(k + 1, " ".join(right[:k] + [wrong] + right[k + 1:]))
            for k in range(1, 7):
                self.bad_promise(k + 1, " ".join(right[:k]))
                self.bad_promise(k + 1, " ".join(right[:k] + [""] + right[k:]))
            self.bad_promise(8, " ".join(right) + " ")
            self.bad_promise(8, " ".join(right) + " 9")
            self.bad_promise(4, f"echo {kind} 0 0 at most 9")
            self.bad_promise(4, f"echo {kind} -0/3 0/7 at least 9")
            self.bad_promise(3, f"echo {kind} x 0 at most 9")
            self.bad_question(4, f"echo {kind} 0 0")
            self.bad_question(5, f"echo {kind} 1 0 at most 9")
            self.bad_question(4, f"echo {kind} 1")
            self.bad_question(3, f"echo {kind}")
        self.bad_promise(1, "")
        self.bad_question(1, "")
        self.bad_question(2, "echo")
        self.bad_question(2, "echo zone 1 1")
        self.bad_question(3, "echo polygon 1")
        self.bad_question(3, "echo polygon ")
        self.bad_promise(3, "echo mean " + "1" * 4001 + " 0 at most 1")

    def test_wrong_words_of_events(self):
        for kind in ("chance", "number"):
            right = f"echo {kind} b c * or * * d at most 1/2".split(" ")
            for k, wrong in ((2, "B"), (3, "c.d"), (4, "**"), (5, "and"), (6, ""), (7, "1"), (8, "-"), (9, "att"), (10, "many"), (11, "x")):
                self.bad_promise(k + 1, " ".join(right[:k] + [wrong] + right[k + 1:]))
            for k in range(1, 12):
                self.bad_promise(k + 1, " ".join(right[:k]))
            self.bad_promise(13, " ".join(right + ["or"]))
            self.bad_promise(3, f"echo {kind}")
            self.bad_promise(9, f"echo {kind} b c * or at most 1")
            self.bad_question(11, f"echo {kind} b c * or * * d or")
            self.bad_question(6, f"echo {kind} b c * d")
            self.bad_question(5, f"echo {kind} b c")

    def test_names_like_words_of_promises(self):
        world = "mine at or\nfoe most at\nboard or\npay * * 1 0\n"
        self.desk.put("world w\n" + world + "plan chance on w for mine\nstate or\nplay * * at:1\n")
        self.assertEqual(self.desk.ask("chance chance or at most or or or at"), "1")
        self.assertEqual(self.desk.kept("chance number or or at at most 0"), (True, None))
        self.assertEqual(self.desk.kept("chance chance or at most or or at at at most 1"), (True, None))
        self.bad_promise(11, "chance chance or at most or or at at or")

    def test_wrong_words_of_zones(self):
        self.bad_promise(3, "echo zone")
        self.bad_promise(4, "echo zone 1")
        self.bad_promise(6, "echo zone 1 1 ,")
        self.bad_promise(7, "echo zone 1 1 , 3")
        self.bad_promise(5, "echo zone 1 1 3 3")
        self.bad_promise(4, "echo zone 1 1, 3 3")
        self.bad_promise(6, "echo zone 1 1 , , 3")
        self.bad_promise(5, "echo zone 1 1 at most 3")
        nine = " , ".join(["1 1"] * 9)
        self.bad_promise(2 + 3 * 8, "echo zone " + nine)
        self.assertEqual(self.desk.kept("echo zone " + " , ".join(["0 0"] * 7 + ["1 1"]))[0], False)

    def test_errors_behind_the_words(self):
        desk = self.desk
        for rest in ("mean 1 0 at most 1", "lead 1 0 at most 1", "chance q q q at most 1", "number q q q at most 1", "zone 1 1"):
            for name in ("none", "pd"):
                for call in (desk.keep, desk.kept):
                    self.check_error(NoName, [name], call, f"{name} {rest}")
        for rest in ("mean 1 0", "chance q q q", "number * * *"):
            for call in (desk.keep, desk.kept):
                self.check_error(HasLetter, [], call, f"shaky {rest} at most 1")
            self.check_error(HasLetter, [], desk.ask, f"shaky {rest}")
            self.check_error(NoName, ["none"], desk.ask, f"none {rest}")
        self.check_error(HasLetter, [], desk.ask, "shaky polygon")
        self.check_error(HasLetter, [], desk.keep, "shaky zone 1 1")
        self.assertEqual(desk.ask("shaky lead 0 1"), "without end")
        self.assertEqual(desk.kept("shaky lead 0 -1 at most 0"), (True, None))
        for kind in ("chance", "number"):
            for mark in (("q", "c", "c"), ("b", "b", "c"), ("*", "c", "q")):
                text = f"echo {kind} * * * or {' '.join(mark)} or q q q"
                self.check_error(BadName, [mark], desk.ask, text)
                self.check_error(BadName, [mark], desk.keep, text + " at most 1")
        self.assertEqual(desk.promises(), ())

    def test_drawn_promises(self):
        chance = random.Random(1)
        for _ in range(20):
            world = drawn_world(chance, 2, 2, chance.randint(1, 2))
            side = chance.choice(("mine", "foe"))
            plan = drawn_plan(chance, world, side, chance.randint(1, 3))
            desk = Desk(f"plan p on w for {side}\n{plan.text}world w\n{world.text}")
            course = Course(plan)
            c = chance.choice(((1, 0), (0, 1), (-1, 1), (2, (-1, 3))))
            words = " ".join([text_of(fraction(part)) for part in c])
            event = (("*", world.mine[0], "*"), (world.boards[-1], world.mine[1], world.foe[1]))
            self.check_mean(desk, course, c, words)
            self.check_lead(desk, course, c, words)
            self.check_events(desk, course, event)
            self.check_zone(desk, course, chance)

    def check_mean(self, desk, course, c, words):
        best = fraction(greatest_mean(course, c).worth)
        self.assertEqual(desk.ask(f"p mean {words}"), text_of(best))
        self.assertEqual(desk.kept(f"p mean {words} at most {text_of(best)}"), (True, None))
        for gap in (TINY, 1):
            kept, choice = desk.kept(f"p mean {words} at most {text_of(best - gap)}")
            self.assertIs(kept, False)
            means = mean_of(course, choice)
            self.assertGreater(sum(fraction(a) * fraction(b) for a, b in zip(c, means)), best - gap)

    def check_lead(self, desk, course, c, words):
        found = lead(course, c)
        if isinstance(found, Gaining):
            self.assertEqual(desk.ask(f"p lead {words}"), "without end")
            kept, witness = desk.kept(f"p lead {words} at most 999")
            self.assertEqual((kept, type(witness)), (False, Gaining))
            return
        self.assertIsInstance(found, Lead)
        best = fraction(found.number)
        self.assertEqual(desk.ask(f"p lead {words}"), text_of(best))
        self.assertEqual(desk.kept(f"p lead {words} at most {text_of(best)}"), (True, None))
        kept, run = desk.kept(f"p lead {words} at most {text_of(best - TINY)}")
        self.assertEqual((kept, type(run)), (False, tuple))
        total = 0
        for k, mine, foe, _ in run:
            pays = course.world.pay(course.standings[k][0], mine, foe)
            total += sum(fraction(a) * fraction(b) for a, b in zip(c, pays))
        self.assertEqual(total, best)
        if run:
            self.assertNotEqual(course.start[run[0][0]], (0, 1))

    def check_events(self, desk, course, event):
        words = marks_text(event)
        best = fraction(greatest_chance(course, event).number)
        self.assertEqual(desk.ask(f"p chance {words}"), text_of(best))
        self.assertEqual(desk.kept(f"p chance {words} at most {text_of(best)}"), (True, None))
        kept, choice = desk.kept(f"p chance {words} at most {text_of(best - TINY)}")
        self.assertEqual((kept, len(choice)), (False, len(course.standings)))
        found = greatest_number(course, event)
        if isinstance(found, Always):
            self.assertEqual(desk.ask(f"p number {words}"), "without end")
            kept, witness = desk.kept(f"p number {words} at most 999999")
            self.assertEqual((kept, type(witness)), (False, Always))
            return
        best = fraction(found.number)
        self.assertEqual(desk.ask(f"p number {words}"), text_of(best))
        self.assertEqual(desk.kept(f"p number {words} at most {text_of(best)}"), (True, None))
        kept, choice = desk.kept(f"p number {words} at most {text_of(best - TINY)}")
        self.assertEqual((kept, len(choice)), (False, len(course.standings)))

    def check_zone(self, desk, course, chance):
        corners = polygon(course).corners
        told = ", ".join([f"{text_of(fraction(x))} {text_of(fraction(y))}" for x, y in corners])
        self.assertEqual(desk.ask("p polygon"), told)
        if len(corners) <= 8:
            self.assertEqual(desk.kept("p zone " + told.replace(",", " ,")), (True, None))
        points = [(chance.randint(-3, 3), chance.randint(-3, 3)) for _ in range(chance.randint(1, 8))]
        zone = Zone(points)
        kept, witness = desk.kept("p zone " + " , ".join([f"{x} {y}" for x, y in points]))
        self.assertEqual(kept, all(corner in zone for corner in corners))
        if not kept:
            self.assertNotIn(mean_of(course, witness), zone)

    def test_known_answers(self):
        desk = self.desk
        self.assertEqual(desk.ask("echo polygon"), "1 1, 3 3")
        self.assertEqual(desk.ask("meek polygon"), "3 3, 5 0")
        self.assertEqual(desk.ask("echo mean -1 1"), "0")
        self.assertEqual(desk.ask("echo lead -1 1"), "5")
        self.assertEqual(desk.ask("echo lead -2/4 3/6"), "5/2")
        self.assertEqual(desk.ask("once chance * c *"), "1")
        self.assertEqual(desk.ask("once number * c *"), "1")
        self.assertEqual(desk.ask("once number * c c or b d *"), "without end")
        self.assertEqual(desk.ask("once lead 1 0"), "without end")

    def test_limits_in_other_terms(self):
        desk = self.desk
        self.assertEqual(desk.kept("echo mean 0/5 007/7 at most 6/2"), (True, None))
        self.assertFalse(desk.kept("echo mean 0/5 7/7 at most 599/200")[0])
        self.assertEqual(desk.kept("echo lead -1 1 at most 5"), (True, None))
        self.assertEqual(desk.kept("echo lead 0 -1 at most -1/2"), (False, ()))
        self.assertEqual(desk.kept("echo zone 1 1 , 6/2 9/3 , 3 3"), (True, None))

    def test_keep_and_release(self):
        desk = self.desk
        first = "echo mean 0 1 at most 3"
        desk.keep(first)
        desk.keep("meek zone 3 3 , 5 0")
        desk.keep(first)
        self.assertEqual(desk.promises(), (first, "meek zone 3 3 , 5 0"))
        desk.keep("echo mean 0 1 at most 6/2")
        self.assertEqual(len(desk.promises()), 3)
        self.check_error(NoName, ["echo mean 0 1 at most 9/3"], desk.release, "echo mean 0 1 at most 9/3")
        self.check_error(NoName, ["echo"], desk.release, "echo")
        self.check_error(NoName, [""], desk.release, "")
        desk.release(first)
        self.assertEqual(desk.promises(), ("meek zone 3 3 , 5 0", "echo mean 0 1 at most 6/2"))
        desk.undo()
        desk.undo()
        desk.undo()
        desk.undo()
        self.assertEqual(desk.promises(), (first,))

    def not_kept(self, promise, call, *args):
        with self.assertRaises(NotKept) as caught:
            call(*args)
        self.assertEqual(caught.exception.promise, promise)
        self.assertEqual(type(caught.exception), NotKept)
        return caught.exception.witness

    def test_edits_that_break_a_promise(self):
        desk = self.desk
        broken = "echo mean 0 1 at most 2"
        witness = self.not_kept(broken, desk.keep, broken)
        self.assertEqual(mean_of(Course(desk.get_plan("echo")), witness)[1], (3, 1))
        first = "echo lead -1 1 at most 5"
        second = "echo mean 0 1 at most 3"
        desk.keep(first)
        desk.keep(second)
        before = desk.lines()
        self.assertIsInstance(self.not_kept(first, desk.edit, "echo", 5, ""), Gaining)
        self.not_kept(second, desk.edit, "pd", 4, "pay c c 4 4")
        self.not_kept(second, desk.put, "world pd\n" + PRISON.replace("3 3", "10/3 10/3"))
        self.not_kept(first, desk.put, "world pd\n" + PRISON.replace("0 5", "0 6").replace("3 3", "4 4"))
        self.check_error(HasLetter, [], desk.edit, "echo", 2, "play nice * c:1-e d:e")
        self.check_error(NoName, ["echo"], desk.put, "world echo\n" + PRISON)
        self.assertEqual((desk.lines(), desk.promises(), desk.broken()), (before, (first, second), ()))
        desk.edit("pd", 4, "pay c c 2 2")
        self.assertEqual(desk.broken(), ())

    def test_a_mark_that_is_there_no_longer(self):
        desk = self.desk
        desk.keep("once number b c * at most 1")
        self.check_error(BadName, [("b", "c", "*")], desk.edit, "pd", 3, "board z")
        self.assertEqual(desk.get_world("pd").boards, ("b",))

    def test_rename_names_promises_anew(self):
        desk = self.desk
        desk.keep("echo mean 0 1 at most 3")
        desk.keep("meek mean 0 1 at most 3")
        desk.rename("echo", "echoes")
        self.assertEqual(desk.promises(), ("echoes mean 0 1 at most 3", "meek mean 0 1 at most 3"))
        desk.rename("pd", "game")
        self.assertEqual(desk.broken(), ())
        desk.release("echoes mean 0 1 at most 3")
        desk.rename("meek", "mean")
        self.assertEqual(desk.promises(), ("mean mean 0 1 at most 3",))

    def test_drop_releases(self):
        desk = self.desk
        desk.keep("echo mean 0 1 at most 3")
        desk.keep("meek mean 0 1 at most 3")
        desk.keep("echo zone 1 1 , 3 3")
        desk.drop("echo")
        self.assertEqual(desk.promises(), ("meek mean 0 1 at most 3",))
        desk.undo()
        self.assertEqual(len(desk.promises()), 3)
        self.assertIn("echo", desk.names())

    def test_parts_together_at_the_desk(self):
        chance = random.Random(2)
        for _ in range(6):
            world = drawn_world(chance, 2, 2, 1)
            plan = drawn_plan(chance, world, "mine", 2)
            desk = Desk(f"world w\n{world.text}plan p on w for mine\n{plan.text}")
            course = Course(plan)
            best = greatest_mean(course, (0, 1)).worth
            self.assertEqual(patience_pieces(course, (0, 1))[-1].worth.at(1), best)
            self.assertEqual(max(fraction(corner[1]) for corner in polygon(course).corners), fraction(best))
            desk.keep(f"p mean 0 1 at most {ratio_text(best)}")
            self.not_kept(f"p mean 0 1 at most {text_of(fraction(best) - TINY)}", desk.keep,
                          f"p mean 0 1 at most {text_of(fraction(best) - TINY)}")

    def test_texts_of_the_file_may_be_read_again(self):
        self.assertIn(ECHO, self.desk.lines())
        self.assertIn(MEEK, Desk(self.desk.lines()).lines())


if __name__ == "__main__":
    unittest.main()
