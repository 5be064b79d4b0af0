"""Files of a desk: heads, items, errors, and what edits do to them."""

import unittest

from everyfoe.desk import Desk
from everyfoe.errors import BadName, BadNumber, BadText, NoName, TakenName, Untold
from everyfoe.plans import Plan
from everyfoe.worlds import World
from tests.helper import CheckCase

PRISON = "mine c d\nfoe c d\nboard b\npay c c 3 3\npay c d 0 5\npay d c 5 0\npay d d 1 1\n"
ECHO = "state nice angry\nplay nice * c:1\nplay angry * d:1\ngo * * * *.c nice:1\ngo * * * *.d angry:1\n"
MEEK = "state a\nplay * * c:1\n"
FILE = "world pd\n" + PRISON + "plan echo on pd for mine\n" + ECHO + "plan meek on pd for foe\n" + MEEK


class FilesTest(CheckCase):
    def bad(self, line, column, text):
        self.check_error(BadText, [line, column], Desk, text)
        desk = Desk(FILE)
        self.check_error(BadText, [line, column], desk.put, text)
        self.assertEqual(desk.lines(), FILE)

    def test_no_items(self):
        for desk in (Desk(), Desk("")):
            self.assertEqual((desk.names(), desk.lines(), desk.promises(), desk.broken()), ((), "", (), ()))

    def test_items_in_order(self):
        desk = Desk(FILE)
        self.assertEqual(desk.names(), ("pd", "echo", "meek"))
        self.assertEqual(desk.lines(), FILE)
        self.assertIsInstance(desk.get_world("pd"), World)
        self.assertEqual(desk.get_world("pd").text, PRISON)
        self.assertIsInstance(desk.get_plan("echo"), Plan)
        self.assertEqual((desk.get_plan("echo").text, desk.get_plan("echo").side), (ECHO, "mine"))
        self.assertEqual((desk.get_plan("meek").text, desk.get_plan("meek").side), (MEEK, "foe"))
        self.assertEqual(desk.get_plan("echo").world.text, PRISON)

    def test_last_line_feed_and_order(self):
        desk = Desk(FILE[:-1])
        self.assertEqual(desk.lines(), FILE)
        turned = "plan echo on pd for mine\n" + ECHO + "world pd\n" + PRISON
        self.assertEqual(Desk(turned).names(), ("echo", "pd"))
        self.assertEqual(Desk(turned).lines(), turned)

    def test_names_like_words_of_heads(self):
        text = "plan plan on world for mine\n" + MEEK + "world world\n" + PRISON + "plan on on on for foe\n" + MEEK
        text = text.replace("on on on", "for on on") + "world on\n" + PRISON
        desk = Desk(text)
        self.assertEqual(desk.names(), ("plan", "world", "for", "on"))
        self.assertEqual(desk.lines(), text)
        self.assertEqual(desk.get_plan("for").world.text, PRISON)

    def test_wrong_heads(self):
        tail = "\n" + PRISON
        self.bad(1, 1, "mine c\n")
        self.bad(1, 1, "\nworld pd" + tail)
        self.bad(1, 1, "\n")
        self.bad(1, 1, " world pd" + tail)
        self.bad(1, 1, "World pd" + tail)
        self.bad(1, 2, "world" + tail)
        self.bad(1, 2, "world " + tail)
        self.bad(1, 2, "world Pd" + tail)
        self.bad(1, 2, "world abcdefghijklm" + tail)
        self.bad(1, 2, "world 1a x" + tail)
        self.bad(1, 3, "world pd x" + tail)
        self.bad(1, 3, "world pd " + tail)
        body = "\n" + MEEK + "world pd\n" + PRISON
        self.bad(1, 2, "plan" + body)
        self.bad(1, 2, "plan x.y on pd for mine" + body)
        self.bad(1, 3, "plan x" + body)
        self.bad(1, 3, "plan x in pd for mine" + body)
        self.bad(1, 4, "plan x on" + body)
        self.bad(1, 4, "plan x on Pd for mine" + body)
        self.bad(1, 4, "plan x on * for" + body)
        self.bad(1, 5, "plan x on pd" + body)
        self.bad(1, 5, "plan x on pd of mine" + body)
        self.bad(1, 6, "plan x on pd for" + body)
        self.bad(1, 6, "plan x on pd for me" + body)
        self.bad(1, 7, "plan x on pd for foe " + body)
        self.bad(1, 7, "plan x on pd for mine mine" + body)

    def test_wrong_heads_of_later_items(self):
        self.bad(9, 2, "world pd\n" + PRISON + "world pd\n" + PRISON)
        self.bad(9, 2, "world pd\n" + PRISON + "plan pd on pd for mine\n" + MEEK)
        self.bad(9, 5, "world pd\n" + PRISON + "plan x on pd\n" + MEEK + "world\n")
        self.bad(12, 2, "world pd\n" + PRISON + "plan x on pd for foe\n" + MEEK + "world x\n")

    def test_heads_ahead_of_worlds_ahead_of_plans(self):
        plan = "plan x on pd for mine\nstate a\nplay * * q:1\n"
        world = "world pd\n" + PRISON.replace("3 3", "3 x")
        lost = "plan y on none for mine\nstate a\nplay * * q:1\n"
        self.bad(12, 3, plan + world + "world zz top\n")
        self.bad(8, 5, plan + world)
        self.bad(3, 4, plan + "world pd\n" + PRISON)
        self.check_error(NoName, ["none"], Desk, lost + "world pd\n" + PRISON)
        self.check_error(NoName, ["none"], Desk, lost + plan + "world pd\n" + PRISON)
        self.bad(3, 4, plan + lost + "world pd\n" + PRISON)
        self.check_error(NoName, ["plan2"], Desk, FILE + "plan x on plan2 for mine\n" + MEEK)
        self.check_error(NoName, ["echo"], Desk, FILE + "plan x on echo for mine\n" + MEEK)

    def test_lines_are_those_of_the_text(self):
        self.bad(2, 1, "world pd\nboard b\n")
        self.bad(2, 1, "world pd\n")
        self.bad(4, 1, "world pd\nmine c\nfoe c\n")
        self.bad(9, 1, "world pd\n" + PRISON + "mine c\n")
        self.bad(10, 1, "world pd\n" + PRISON + "plan x on pd for foe\n")
        self.bad(11, 4, "world pd\n" + PRISON + "plan x on pd for foe\nstate a\nplay a b z:1\n")
        self.bad(11, 5, "world pd\n" + PRISON + "plan x on pd for foe\nstate a\nplay a b c:1/2\n")
        text = "world pd\n" + PRISON.replace("pay d d 1 1\n", "")
        self.check_error(Untold, ["b", ("d", "d")], Desk, text)
        text = "world pd\n" + PRISON + "plan x on pd for foe\nstate a b\nplay a * c:1\n"
        self.check_error(Untold, ["b", ("b",)], Desk, text)

    def test_what_is_no_string(self):
        desk = Desk(FILE)
        for value in (None, 1, b"world", ["world pd"], ("a",)):
            self.check_error(BadText, [0, 0], Desk, value)
            self.check_error(BadText, [0, 0], desk.put, value)
            self.check_error(BadText, [0, 0], desk.keep, value)
            self.check_error(BadText, [0, 0], desk.release, value)
            self.check_error(BadText, [0, 0], desk.kept, value)
            self.check_error(BadText, [0, 0], desk.ask, value)
            self.check_error(BadText, [0, 0], desk.edit, "none", 0, value)
            for call in (desk.drop, desk.get_world, desk.get_plan):
                self.check_error(BadName, [value], call, value)
            self.check_error(BadName, [value], desk.edit, value, 0, value)
            self.check_error(BadName, [value], desk.rename, "echo", value)
            self.check_error(BadName, [value], desk.rename, value, "new")
        self.assertEqual(desk.lines(), FILE)

    def test_names_that_are_not_there(self):
        desk = Desk(FILE)
        for name in ("none", "", "Echo", "echo "):
            for call in (desk.drop, desk.get_world, desk.get_plan):
                self.check_error(NoName, [name], call, name)
            self.check_error(NoName, [name], desk.edit, name, 0, "")
            self.check_error(NoName, [name], desk.rename, name, "echo")
        self.check_error(NoName, ["echo"], desk.get_world, "echo")
        self.check_error(NoName, ["pd"], desk.get_plan, "pd")

    def test_put(self):
        desk = Desk(FILE)
        before = desk.get_plan("echo")
        world = desk.get_world("pd")
        desk.put("plan extra on pd for foe\n" + MEEK)
        self.assertEqual(desk.names(), ("pd", "echo", "meek", "extra"))
        self.assertIs(desk.get_plan("echo"), before)
        self.assertIs(desk.get_world("pd"), world)
        desk.put("plan echo on pd for foe\n" + MEEK)
        self.assertEqual(desk.names(), ("pd", "echo", "meek", "extra"))
        self.assertEqual((desk.get_plan("echo").side, desk.get_plan("echo").text), ("foe", MEEK))
        richer = PRISON.replace("3 3", "4 4")
        desk.put("world pd\n" + richer)
        self.assertEqual(desk.get_world("pd").text, richer)
        for name in ("echo", "meek", "extra"):
            self.assertEqual(desk.get_plan(name).world.text, richer)
        self.assertEqual(desk.names(), ("pd", "echo", "meek", "extra"))
        desk.put("")
        self.assertEqual(desk.names(), ("pd", "echo", "meek", "extra"))

    def test_put_reads_plans_again(self):
        """Lines of what is read again are counted from the head line, those of
        what is put from the beginning of the text."""
        desk = Desk(FILE)
        fewer = PRISON.replace("foe c d", "foe d").replace("pay c c 3 3\n", "").replace("pay d c 5 0\n", "")
        self.check_error(BadText, [4, 5], desk.put, "world pd\n" + fewer)
        self.check_error(BadText, [4, 5], desk.put, "world other\n" + PRISON + "world pd\n" + fewer)
        text = "plan echo on pd for mine\nstate a\nplay * * d:1\nworld pd\n" + fewer
        self.check_error(BadText, [2, 4], desk.put, text)
        text = "plan meek on pd for foe\nstate a\nplay * * c:1\nworld pd\n" + fewer
        self.check_error(BadText, [4, 5], desk.put, text)
        text += "plan echo on pd for mine\nstate a\nplay * * d:1\n"
        self.check_error(BadText, [3, 4], desk.put, text)
        self.assertEqual(desk.lines(), FILE)
        text = text.replace("c:1", "d:1")
        desk.put(text)
        self.assertEqual(desk.names(), ("pd", "echo", "meek"))

    def test_put_in_the_place_of_another_sort(self):
        desk = Desk(FILE)
        self.check_error(NoName, ["pd"], desk.put, "plan pd on pd for mine\n" + MEEK)
        self.check_error(NoName, ["pd"], desk.put, "plan pd on w for mine\n" + MEEK + "world w\n" + PRISON)
        desk.put("world meek\n" + PRISON + "plan echo on meek for mine\n" + ECHO)
        self.assertEqual(desk.names(), ("pd", "echo", "meek"))
        self.assertEqual(desk.get_world("meek").text, PRISON)
        self.check_error(NoName, ["meek"], desk.get_plan, "meek")

    def test_edit(self):
        desk = Desk(FILE)
        desk.edit("pd", 4, "pay c c 2 2\n")
        self.assertEqual(desk.get_world("pd").pay("b", "c", "c"), ((2, 1), (2, 1)))
        self.assertEqual(desk.get_plan("echo").world.pay("b", "c", "c"), ((2, 1), (2, 1)))
        self.assertEqual(desk.names(), ("pd", "echo", "meek"))
        desk.edit("echo", 6, "play angry * c:1/2 d:1/2\ngo nice * * *.d nice:1")
        self.assertEqual(desk.get_plan("echo").play("angry", "b"), (("c", (1, 2)), ("d", (1, 2))))
        self.assertEqual(len(desk.get_plan("echo").text.split("\n")), 8)
        desk.edit("echo", 6, "")
        self.assertEqual(desk.get_plan("echo").play("angry", "b"), (("d", (1, 1)),))
        desk.edit("echo", 7, "")
        self.assertEqual(desk.get_plan("echo").text, ECHO + "go nice * * *.d nice:1\n")
        desk.edit("meek", 1, "state a\n")
        self.assertEqual(desk.get_plan("meek").text, MEEK)

    def test_wrong_edits(self):
        desk = Desk(FILE)
        for number in (0, -1, 9, 100, None, "1", 1.0, True, (1, 1)):
            self.check_error(BadNumber, ["line", number], desk.edit, "pd", number, "x")
        self.check_error(BadText, [4, 4], desk.edit, "pd", 4, "pay c c x 3")
        self.check_error(BadText, [4, 1], desk.edit, "pd", 4, "world x")
        self.check_error(BadText, [8, 1], desk.edit, "pd", 8, "\n")
        self.check_error(BadText, [2, 1], desk.edit, "echo", 2, "plan x on pd for mine")
        self.check_error(BadText, [1, 1], desk.edit, "meek", 1, "")
        self.check_error(Untold, ["b", ("c", "d")], desk.edit, "pd", 5, "")
        self.assertEqual(desk.lines(), FILE)

    def test_edited_worlds_read_their_plans_again(self):
        desk = Desk("world w\nmine c d\nfoe c\nboard b\npay * * 0 0\nplan p on w for mine\nstate a\nplay a b c:1\n")
        before = desk.lines()
        self.check_error(BadText, [2, 3], desk.edit, "w", 3, "board a")
        self.check_error(BadText, [2, 4], desk.edit, "w", 1, "mine d")
        self.check_error(Untold, ["z", ("a",)], desk.edit, "w", 5, "board z\npay * * 0 0")
        self.assertEqual(desk.lines(), before)
        desk.edit("p", 2, "play * * c:1")
        desk.edit("w", 5, "board z\npay * * 0 0")
        self.assertEqual(desk.get_plan("p").world.boards, ("b", "z"))

    def test_drop(self):
        desk = Desk(FILE)
        self.check_error(TakenName, ["echo"], desk.drop, "pd")
        desk.drop("echo")
        self.check_error(TakenName, ["meek"], desk.drop, "pd")
        desk.drop("meek")
        self.assertEqual(desk.names(), ("pd",))
        desk.drop("pd")
        self.assertEqual((desk.names(), desk.lines()), ((), ""))

    def test_rename(self):
        desk = Desk(FILE)
        desk.rename("echo", "mirror")
        desk.rename("pd", "game")
        expected = FILE.replace("world pd", "world game").replace("on pd", "on game").replace("plan echo", "plan mirror")
        self.assertEqual(desk.lines(), expected)
        self.assertEqual(desk.names(), ("game", "mirror", "meek"))
        self.assertEqual(desk.get_plan("mirror").text, ECHO)
        desk.edit("game", 4, "pay c c 2 2")
        self.assertEqual(desk.get_plan("meek").world.pay("b", "c", "c"), ((2, 1), (2, 1)))
        again = Desk(desk.lines())
        self.assertEqual(again.lines(), desk.lines())

    def test_wrong_renames(self):
        desk = Desk(FILE)
        for new in ("", "Echo", "1a", "a b", "abcdefghijklm", "*", "a\n"):
            self.check_error(BadName, [new], desk.rename, None, new)
        self.check_error(BadName, [7], desk.rename, 7, "echo")
        self.check_error(NoName, ["none"], desk.rename, "none", "echo")
        for new in ("pd", "meek", "echo"):
            self.check_error(TakenName, [new], desk.rename, "echo", new)
        self.assertEqual(desk.lines(), FILE)

    def test_two_desks(self):
        one = Desk(FILE)
        other = Desk(FILE)
        one.drop("meek")
        other.rename("meek", "mild")
        one.put("world w\n" + PRISON)
        self.assertEqual(one.names(), ("pd", "echo", "w"))
        self.assertEqual(other.names(), ("pd", "echo", "mild"))
        other.undo()
        self.assertEqual(one.names(), ("pd", "echo", "w"))
        self.assertEqual(other.lines(), FILE)


if __name__ == "__main__":
    unittest.main()
