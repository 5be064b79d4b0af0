import itertools
import random

from everyfoe.errors import BadName, BadNumber, BadText, TooLarge, TooMany, Untold
from everyfoe.quotients import Quotient, quotient_of
from everyfoe.worlds import World, world_of
from tests.helper import CheckCase

PLAIN = "mine c d\nfoe c d\nboard b\npay c c 3 3\npay c d 0 5\npay d c 5 0\npay d d 1 1\n"
BOARDS = (
    "mine a b\nfoe x y z\nboard one\npay * * 1 -1/2\npay a y 6/4 0\ngo b * two:1/3 one:2/3\nsignal * z up:1/2 down:1/2\n"
    "board two\npay * * 0 0\npay * y 2 2\npay b * 3 3\ngo * * one:1\ngo a x two:1\nsignal b * b:1\n"
)
LETTER = (
    "mine a b\nfoe x y\nboard one\npay * * 0 1\nsignal a * up:1-e down:e\nsignal a y down:1/2+0*e up:1/2\n"
    "go * x two:e^2-1/2*e^2 one:1-1/2*e^2\nboard two\npay * * 0 1\ngo * * one:1\n"
)
NO_STRINGS = [None, 1, True, ("mine a",), ["mine a", "foe b"], b"mine a", 1.5]
NO_INNER = [None, True, 0, 1, -1, 2, (0, 1), (2, 2), (3, 2), (-1, 2), (1, 0), (1, -2), "1/2", [1, 2], (1, 2, 3), (True, 2), 0.5]


def told(pairs):
    """A distribution with the texts of its chances."""
    return {name: chance if isinstance(chance, tuple) else (chance.top, chance.bottom) for name, chance in pairs}


class WorldCase(CheckCase):
    def check_bad(self, text, line, column):
        self.check_error(BadText, (line, column), World, text)


class WorldTest(WorldCase):
    def test_a_plain_world(self):
        world = World(PLAIN)
        self.assertEqual((world.text, world.mine, world.foe, world.boards), (PLAIN, ("c", "d"), ("c", "d"), ("b",)))
        self.assertIs(world.lettered, False)
        self.assertIs(world.plain, True)
        self.assertEqual(world.pay("b", "c", "d"), ((0, 1), (5, 1)))
        self.assertEqual(world.pay("b", "d", "c"), ((5, 1), (0, 1)))
        self.assertEqual(world.signals("b", "c", "d"), (("c.d", (1, 1)),))
        self.assertEqual(world.going("b", "c", "d"), (("b", (1, 1)),))
        for text in (PLAIN[:-1], PLAIN.replace("board b", "board b\ngo * * b:1")):
            self.assertEqual(World(text).text, text)
            self.assertIs(World(text).plain, True)

    def test_several_boards(self):
        world = World(BOARDS)
        self.assertEqual(world.boards, ("one", "two"))
        self.assertEqual((world.lettered, world.plain), (False, False))
        half = ((1, 1), (-1, 2))
        self.assertEqual([world.pay("one", "a", foe) for foe in "xyz"], [half, ((3, 2), (0, 1)), half])
        self.assertEqual([world.pay("one", "b", foe) for foe in "xyz"], [half] * 3)
        three = ((3, 1), (3, 1))
        self.assertEqual([world.pay("two", "b", foe) for foe in "xyz"], [three] * 3)
        self.assertEqual(world.pay("two", "a", "y"), ((2, 1), (2, 1)))
        self.assertEqual(world.going("one", "b", "x"), (("one", (2, 3)), ("two", (1, 3))))
        self.assertEqual(world.going("one", "a", "x"), (("one", (1, 1)),))
        self.assertEqual(world.going("two", "a", "x"), (("two", (1, 1)),))
        self.assertEqual(world.going("two", "a", "y"), (("one", (1, 1)),))
        self.assertEqual(world.signals("one", "a", "z"), (("up", (1, 2)), ("down", (1, 2))))
        self.assertEqual(world.signals("one", "a", "x"), (("a.x", (1, 1)),))
        self.assertEqual(world.signals("two", "b", "z"), (("b", (1, 1)),))

    def test_one_to_four_boards_and_moves(self):
        for mines, foes, boards in itertools.product((1, 2, 4), (1, 3, 4), (1, 2, 4)):
            lines = ["mine " + " ".join(f"m{k}" for k in range(mines)), "foe " + " ".join(f"m{k}" for k in range(foes))]
            for k in range(boards):
                lines += [f"board b{k}", f"pay * * {k} 0", f"pay m{mines - 1} * {k} 1", f"go * m0 b{boards - 1}:1"]
            world = World("\n".join(lines))
            self.assertEqual((len(world.mine), len(world.foe), len(world.boards)), (mines, foes, boards))
            for board, mine, foe in itertools.product(range(boards), range(mines), range(foes)):
                at = (f"b{board}", f"m{mine}", f"m{foe}")
                self.assertEqual(world.pay(*at), ((board, 1), (int(mine == mines - 1), 1)))
                self.assertEqual(world.signals(*at), ((f"m{mine}.m{foe}", (1, 1)),))
                self.assertEqual(world.going(*at), ((f"b{board if foe else boards - 1}", (1, 1)),))

    def test_the_last_line_that_fits_counts(self):
        chance = random.Random(1)
        for _ in range(200):
            lines = [(chance.choice("ab*"), chance.choice("xyz*"), k) for k in range(chance.randrange(8))]
            lines = [("*", "*", -1), *lines]
            text = "mine a b\nfoe x y z\nboard o\n"
            text += "".join(f"pay {m} {f} {k} 0\nsignal {m} {f} s{k + 1}:1\n" for m, f, k in lines)
            world = World(text)
            for mine, foe in itertools.product("ab", "xyz"):
                last = [k for m, f, k in lines if m in ("*", mine) and f in ("*", foe)][-1]
                self.assertEqual(world.pay("o", mine, foe)[0], (last, 1))
                self.assertEqual(world.signals("o", mine, foe), ((f"s{last + 1}", (1, 1)),))

    def test_the_letter(self):
        world = World(LETTER)
        self.assertEqual((world.lettered, world.plain), (True, False))
        self.assertEqual(told(world.signals("one", "a", "x")), {"up": ((1, -1), (1,)), "down": ((0, 1), (1,))})
        self.assertEqual([name for name, _ in world.signals("one", "a", "y")], ["down", "up"])
        for pairs in (world.signals("one", "a", "y"), world.signals("one", "b", "x"), world.going("two", "a", "x")):
            self.assertTrue(all(isinstance(chance, Quotient) for _, chance in pairs))
        self.assertEqual(told(world.signals("one", "b", "x")), {"b.x": ((1,), (1,))})
        self.assertEqual([name for name, _ in world.going("one", "a", "x")], ["one", "two"])
        self.assertEqual(told(world.going("one", "a", "x")), {"one": ((2, 0, -1), (2,)), "two": ((0, 0, 1), (2,))})

    def test_only_lines_that_count_make_a_letter(self):
        base = "mine a\nfoe x\nboard b\npay a x 0 0\n"
        for lines, lettered in [
            ("signal * * u:e d:1-e\nsignal a x u:1\n", False), ("signal a x u:1\nsignal * * u:e d:1-e\n", True),
            ("go * * b:1-e+e\n", False), ("signal * * u:1/2+e-e d:1/2\n", False), ("go a x c:e b:1-e\nboard c\npay * * 0 0\n", True),
            ("go a x c:e b:1-e\ngo * x b:1\nboard c\npay * * 0 0\n", False),
        ]:
            world = World(base + lines)
            self.assertIs(world.lettered, lettered)
            self.assertIs(world.plain, lines.startswith("go * * b"))
            kind = Quotient if lettered else tuple
            self.assertTrue(all(type(chance) is kind for _, chance in world.signals("b", "a", "x") + world.going("b", "a", "x")))

    def test_all_forms_of_chances(self):
        base = "mine a\nfoe x\nboard b\npay a x 0 0\nsignal a x "
        for words in ["u:1/3+1/3*e^2 d:2/3-1/3*e^2", "u:e^6 d:1-e^6", "u:4/8 d:2/4", "u:-e+1 d:e", "u:1/2*e v:1/2*e d:1-e", "u:1/4-e+e^2+1/12 d:2/3+e-e^2"]:
            found = World(base + words).signals("b", "a", "x")
            for (name, chance), word in zip(found, words.split(" ")):
                self.assertEqual(name, word[0])
                expected = quotient_of(word[2:])
                self.assertEqual(chance if isinstance(chance, tuple) else chance.at((1, 3)), expected.at((1, 3)))

    def test_bad_names(self):
        world = World(BOARDS)
        for call in (world.pay, world.signals, world.going):
            for value in ["", "x", "*", None, 1, True, ["one"], ("one",), {}, "two "]:
                self.check_error(BadName, (value,), call, value, "x", "a")
            for value in ["x", "*", "one", None, 0, ["a"]]:
                self.check_error(BadName, (value,), call, "one", value, "a")
            for value in ["a", "*", "two", None, 0, ["x"]]:
                self.check_error(BadName, (value,), call, "two", "a", value)


class WrongTextTest(WorldCase):
    def test_values_that_are_no_strings(self):
        for value in NO_STRINGS:
            self.check_bad(value, 0, 0)

    def test_texts_that_end(self):
        for text, line in [("", 1), ("mine a", 2), ("mine a\n", 2), ("mine a\nfoe x", 3), ("mine a\nfoe x\n", 3)]:
            self.check_bad(text, line, 1)
        self.check_error(Untold, ("b", ("a", "x")), World, "mine a\nfoe x\nboard b")

    def test_empty_words(self):
        for text, line, column in [
            ("\n", 1, 1), ("\nmine a", 1, 1), ("mine a\n\nfoe x", 2, 1), (PLAIN + "\n", 8, 1), (PLAIN + " ", 8, 1), (" " + PLAIN, 1, 1),
            ("mine  a", 1, 2), ("mine a ", 1, 3), ("mine a \nfoe", 1, 3), ("mine ", 1, 2), ("mine a\nfoe x\nboard  b", 3, 2),
            ("mine a\nfoe x\nboard b ", 3, 3), (PLAIN + "pay c c 0 0 ", 8, 6), (PLAIN + "pay c  c 0 0", 8, 3),
            (PLAIN + "signal c c  u:1", 8, 4), (PLAIN + "signal c c u:1 ", 8, 5), (PLAIN + "signal c c u:1/2 ", 8, 5),
        ]:
            self.check_bad(text, line, column)

    def test_lines_of_moves(self):
        for head, line, rest in [("mine", 1, ""), ("foe", 2, "mine a\n")]:
            for words, column in [
                ("", 2), (" A", 2), (" 1a", 2), (" a.b", 2), (" *", 2), (" a a", 3), (" a b c a", 5), (" a b c d e", 6), (" a b c d e f", 6),
                (" abcdefghijklm", 2), (" a b_c", 3), (" a\u00e9", 2), (" a\u0661", 2), (" a:1", 2), (" a\tb", 2), (" a\r", 2), (" a B C", 3), (" a b c d a", 6),
            ]:
                self.check_bad(rest + head + words + "\nboard", line, column)
            for word in ("Mine", "min", "board", "", "mines", "pay"):
                self.check_bad(rest + word + " a\n", line, 1)
        self.check_bad("foe a\nmine b\n", 1, 1)
        self.assertEqual(World("mine abcdefghijkl a1 b2c\nfoe mine\nboard foe\npay * * 0 0").mine, ("abcdefghijkl", "a1", "b2c"))

    def test_lines_of_boards(self):
        base = "mine a\nfoe x\n"
        for words, column in [("board", 2), ("board b c", 3), ("board B", 2), ("board *", 2), ("board b:1", 2), ("pay * * 0 0", 1), ("go * * b:1", 1), ("signal * * u:1", 1), ("boards b", 1)]:
            self.check_bad(base + words + "\n", 3, column)
        self.check_bad(base + "board b\nboard b", 4, 2)
        self.check_bad(base + "board a\nboard b\nboard c\nboard d\nboard e", 7, 1)
        self.check_bad(base + "board a\nboard b\nboard c\nboard d\nboard a", 7, 1)
        self.check_bad(base + "board a\nboard b\nboard c\nboard d\nboard", 7, 1)
        for word in ("mine", "foe", "state", "start", "Pay", "#"):
            self.check_bad(base + f"board b\n{word} a x 0 0", 4, 1)

    def test_lines_pay(self):
        for words, column in [
            ("pay", 2), ("pay c", 3), ("pay c c", 4), ("pay c c 0", 5), ("pay c c 0 0 0", 6), ("pay x c 0 0", 2), ("pay c x 0 0", 3),
            ("pay ** c 0 0", 2), ("pay c c x 0", 4), ("pay c c 0 1/0", 5), ("pay c c 0 -", 5), ("pay c c 1.5 0", 4), ("pay c c e 0", 4),
            ("pay c c 0 " + "1" * 4001, 5), ("pay c x x x", 3), ("pay b c 0 0", 2), ("pay c c -1 x 0", 5), ("pay c.c 0 0", 2),
        ]:
            self.check_bad(PLAIN + words, 8, column)
            self.check_bad(PLAIN + words + "\nx y", 8, column)
        self.assertEqual(World(PLAIN + "pay c c -0 007/" + "0" * 3999 + "2").pay("b", "c", "c"), ((0, 1), (7, 2)))

    def test_lines_with_a_distribution(self):
        for head, one, other in [("signal", "u", "v"), ("go", "b", "n")]:
            for words, column in [
                ("", 2), ("c", 3), ("c c", 4), ("x c u:1", 2), ("c x u:1", 3), ("c c ONE", 4), ("c c :1", 4), ("c c ONE:", 4), ("c c ONE:1:1", 4), ("c c ONE:0", 4),
                ("c c ONE:-1", 4), ("c c ONE:x", 4), ("c c ONE:1 OTHER:0", 5), ("c c ONE:1/2 ONE:1/2", 5), ("c c ONE:1/2", 5), ("c c ONE:2", 5),
                ("c c ONE:1/2 OTHER:1/3", 6), ("c c ONE:1/2 OTHER:1/2 x", 6), ("c c ONE:e OTHER:e", 6), ("c c ONE:1-2*e OTHER:2*e", 4), ("c c ONE:e OTHER:1-2*e", 5),
                ("c c ONE:1/4-e+e^2 OTHER:3/4+e-e^2", 4), ("c c ONE:01", 4), ("c c ONE:1/02", 4), ("c c ONE:1+ OTHER:0", 4), ("c c *:1", 4), ("c c ONE.c:1", 4), ("c c A:1", 4),
                ("c c ONE:" + "1" * 4001, 4), ("c c ONE:1/3 OTHER:1/3 x:1/3:1", 6), ("c c ONE:1/3 OTHER:x ONE:1", 5), ("c c ONE:e^7", 4), ("c c ONE:3/2 OTHER:-1/2", 5),
            ]:
                line = f"{head} {words}".rstrip(" ").replace("ONE", one).replace("OTHER", other)
                self.check_bad(PLAIN + line + "\nboard n\npay * * 0 0\nx", 8, column)
        self.check_bad(PLAIN + "go c c n:1\n", 8, 4)
        self.check_bad(PLAIN + "go c c b:1/2 u:1/2\n", 8, 5)
        self.check_bad(PLAIN + "go c c c:1\n", 8, 4)

    def test_boards_that_are_told_later(self):
        self.check_error(Untold, ("n", ("c", "c")), World, PLAIN + "go c c n:1\nboard n\n")
        self.check_bad(PLAIN + "go c c n:1\nboard n x\n", 9, 3)
        self.check_bad(PLAIN + "go c c n:1\nboard N\n", 8, 4)
        self.check_bad(PLAIN + "go c c N:1\nboard N\n", 8, 4)
        self.check_bad(PLAIN + "go c c e:1\nboard m\nboard n\nboard o\nboard e\n", 12, 1)
        self.check_bad(PLAIN + "go c c n:1\nboards n\n", 8, 4)
        world = World(PLAIN + "go c c n:1/2 b:1/2\nboard n\npay * * 0 0")
        self.assertEqual(world.going("b", "c", "c"), (("b", (1, 2)), ("n", (1, 2))))

    def test_the_first_wrong_line(self):
        self.check_bad("mine a a\nfoe x x\nx", 1, 3)
        self.check_bad(PLAIN + "pay c c 0\npay c 0 0\nboard b", 8, 5)
        self.check_bad(PLAIN.replace("pay c d 0 5", "pay c d 0") + "x", 5, 5)

    def test_untold(self):
        self.check_error(Untold, ("b", ("d", "c")), World, PLAIN.replace("pay d c 5 0\n", "").replace("pay d d 1 1\n", ""))
        self.check_error(Untold, ("b", ("c", "d")), World, PLAIN.replace("pay c d 0 5\n", "") + "board n\n")
        self.check_error(Untold, ("n", ("c", "d")), World, PLAIN + "board n\npay * c 0 0\npay d d 0 0\nboard o")
        self.check_bad(PLAIN.replace("pay c d 0 5\n", "") + "board n\nx", 8, 1)


class SettledTest(WorldCase):
    def test_text_and_tables(self):
        world = World(LETTER)
        found = world.settled((2, 8))
        self.assertEqual(
            found.text,
            LETTER.replace("up:1-e down:e", "up:3/4 down:1/4").replace("two:e^2-1/2*e^2 one:1-1/2*e^2", "two:1/32 one:31/32"),
        )
        self.assertIs(found.lettered, False)
        self.assertEqual(found.signals("one", "a", "x"), (("up", (3, 4)), ("down", (1, 4))))
        self.assertEqual(found.signals("one", "a", "y"), (("down", (1, 2)), ("up", (1, 2))))
        self.assertEqual(found.going("one", "a", "x"), (("one", (31, 32)), ("two", (1, 32))))
        self.assertEqual(world.text, LETTER)
        self.assertIs(world.lettered, True)

    def test_line_ends_stay(self):
        for text in (PLAIN, PLAIN[:-1], LETTER[:-1]):
            self.assertEqual(World(text).settled((1, 2)).text.endswith("\n"), text.endswith("\n"))
        self.assertEqual(World(PLAIN).settled((1, 2)).text, PLAIN)

    def test_lines_that_do_not_count(self):
        text = "mine go\nfoe signal\nboard b\npay * * 0 0\nsignal * * u:e d:1-e\nsignal * * u:1\n"
        self.assertEqual(World(text).settled((1, 3)).text, text.replace("u:e d:1-e", "u:1/3 d:2/3"))

    def test_errors(self):
        for value in NO_INNER:
            self.check_error(BadNumber, ("e", value), World(LETTER).settled, value)
            self.check_error(BadNumber, ("e", value), World(PLAIN).settled, value)

    def test_values_that_are_too_long(self):
        text = "mine a\nfoe x\nboard b\npay * * 0 0\nsignal * * u:1/2*e d:1-1/2*e\nsignal * * u:e^6 d:1-e^6\n"
        for many in (4001, 4500):
            ratio = (1, 10 ** (many - 1) + 1)
            self.check_error(TooLarge, ("digits", 6 * (many - 1) + 1, 4000), World(text).settled, ratio)
        ratio = (10 ** 666 - 1, 10 ** 666)
        self.assertEqual(World(text).settled(ratio).signals("b", "a", "x")[0][1], (ratio[0] ** 6, ratio[1] ** 6))
        plain = World("mine a\nfoe x\nboard b\npay * * 0 0\nsignal * * u:e d:1-e\n")
        self.assertEqual(plain.settled((1, 10 ** 3999)).signals("b", "a", "x")[0][1], (1, 10 ** 3999))
        self.check_error(TooLarge, ("digits", 4001, 4000), plain.settled, (1, 10 ** 4000))
        ratio = (10 ** 667 - 1, 10 ** 667)
        self.check_error(TooLarge, ("digits", 4003, 4000), World(text).settled, ratio)
        self.assertEqual(World(PLAIN).settled(ratio).text, PLAIN)


class WorldOfTest(CheckCase):
    def test_text_and_tables(self):
        found = world_of(["c", "d"], ("x", "y", "c"), [[(1, 2), [3, (6, 4)], ((-1, 2), 0)], ((4, 5), (6, 7), [8, (0, 3)])])
        self.assertIs(type(found), World)
        self.assertEqual(
            found.text,
            "mine c d\nfoe x y c\nboard b\npay c x 1 2\npay c y 3 3/2\npay c c -1/2 0\npay d x 4 5\npay d y 6 7\npay d c 8 0\n",
        )
        self.assertEqual(found.pay("b", "c", "y"), ((3, 1), (3, 2)))
        self.assertEqual(found.boards, ("b",))
        self.assertIs(found.plain, True)
        self.assertEqual(world_of(("a",), ["b"], (((0, 0),),)).text, "mine a\nfoe b\nboard b\npay a b 0 0\n")
        found = world_of(list("abcd"), list("efgh"), [[(i, j) for j in range(4)] for i in range(4)])
        self.assertEqual((found.mine, found.foe), (tuple("abcd"), tuple("efgh")))
        self.assertEqual(found.pay("b", "d", "g"), ((3, 1), (2, 1)))

    def test_names(self):
        for value in [None, "ab", 1, {}, {"a": 1}, [], (), True]:
            self.check_error(BadName, (value,), world_of, value, None, None)
            self.check_error(BadName, (value,), world_of, ["a"], value, None)
        for value in ["A", "", "*", "a.b", "1", "abcdefghijklm", None, 1, ["a"], ("a",), "a"]:
            self.check_error(BadName, (value,), world_of, ["a", value, "B", "c", "d", "e"], None, None)
            self.check_error(BadName, (value,), world_of, ["a"], ("a", value, "B"), None)
        for many in (5, 7):
            names = [f"a{k}" for k in range(many)]
            self.check_error(TooMany, ("moves", many, 4), world_of, names, None, None)
            self.check_error(TooMany, ("moves", many, 4), world_of, ["a"], tuple(names), None)
        self.check_error(BadName, ("B",), world_of, ["a", "b", "c", "d", "e", "B"], None, None)

    def test_lengths(self):
        good = [[(0, 0), (0, 0)], [(0, 0), (0, 0)]]
        world_of(["a", "b"], ["c", "d"], good)
        for wrong in [
            None, 0, "ab", {}, [], good[:1], good + good[:1], [good[0], None], [good[0], [(0, 0)]], [good[0], "ab"], [good[0], [(0, 0), None]],
            [good[0], [(0, 0), (0,)]], [good[0], [(0, 0), (0, 0, 0)]], [good[0], [(0, 0), "ab"]], [[("x", 0), (0, 0)], [(0, 0), 1]],
        ]:
            self.check_error(BadNumber, ("pays", wrong), world_of, ["a", "b"], ["c", "d"], wrong)

    def test_pays(self):
        for value in [None, True, "1", 0.5, (1, 0), (1, -1), [1, 2], (1, 2, 3)]:
            self.check_error(BadNumber, ("pay", value), world_of, ["a"], ["c", "d"], [[(0, value), ("x", 0)]])
            self.check_error(BadNumber, ("pay", value), world_of, ["a", "b"], ["c"], [[(10 ** 4000, 0)], [(value, "x")]])

    def test_long_pays(self):
        large = 10 ** 4000
        self.assertEqual(world_of(["a"], ["b"], [[(large - 1, (1, large - 1))]]).pay("b", "a", "b"), ((large - 1, 1), (1, large - 1)))
        self.check_error(TooLarge, ("digits", 4001, 4000), world_of, ["a"], ["b"], [[(0, large)]])
        self.check_error(TooLarge, ("digits", 4002, 4000), world_of, ["a"], ["b", "c"], [[(0, (1, 10 * large)), (10 ** 5000, 0)]])

    def test_lists_stay_and_are_copied(self):
        mine, foe, pays = ["a"], ["b"], [[[1, 2]]]
        found = world_of(mine, foe, pays)
        mine.append("c")
        pays[0][0][0] = 7
        self.assertEqual((found.mine, found.pay("b", "a", "b")), (("a",), ((1, 1), (2, 1))))
