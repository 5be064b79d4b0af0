import itertools
import random
import unittest

from everyfoe.errors import BadName, BadText
from everyfoe.rulebooks import Rulebook
from everyfoe.worlds import World, all_signals
from tests.helper import CheckCase
from tests.test_builders import fits

WORLD = World(
    "mine c d\nfoe c d x\nboard one\npay * * 0 0\nsignal c d up:1/2 down:1/2\nsignal d * up:1\ngo * d two:1\nboard two\npay * * 1 1\n"
)
TEXT = "state s t u\nbar s one d\nbar t * x\nbar * two c\ngo s one c d up t\ngo * * * * *.x u\ngo t two * c * s\n"


class RulebookTest(CheckCase):
    def check_bad(self, text, line, column, side="foe"):
        self.check_error(BadText, (line, column), Rulebook, WORLD, text, side)

    def test_attributes(self):
        book = Rulebook(WORLD, TEXT)
        self.assertIs(book.world, WORLD)
        self.assertEqual((book.text, book.side, book.states), (TEXT, "foe", ("s", "t", "u")))
        self.assertEqual(Rulebook(WORLD, "state s\n", "mine").side, "mine")
        self.assertEqual(Rulebook(WORLD, "state s", side="mine").allowed("s", "one"), ("c", "d"))
        self.assertEqual(Rulebook(WORLD, "state s").after("s", "two", "d", "x", "down"), "s")

    def test_allowed_and_after(self):
        book = Rulebook(WORLD, TEXT)
        self.assertEqual(book.allowed("s", "one"), ("c", "x"))
        self.assertEqual(book.allowed("s", "two"), ("d", "x"))
        self.assertEqual(book.allowed("t", "one"), ("c", "d"))
        self.assertEqual(book.allowed("t", "two"), ("d",))
        self.assertEqual(book.allowed("u", "one"), ("c", "d", "x"))
        self.assertEqual(book.after("s", "one", "c", "d", "up"), "t")
        self.assertEqual(book.after("s", "one", "c", "d", "down"), "s")
        self.assertEqual(book.after("s", "one", "d", "d", "up"), "s")
        self.assertEqual(book.after("s", "one", "d", "x", "d.x"), "u")
        # The signal tells, not the move.
        self.assertEqual(book.after("s", "one", "d", "c", "d.x"), "u")
        self.assertEqual(book.after("t", "two", "d", "c", "d.x"), "s")
        self.assertEqual(book.after("t", "two", "d", "c", "up"), "s")
        self.assertEqual(book.after("t", "one", "d", "c", "up"), "t")
        every = Rulebook(WORLD, "state s\nbar * * *")
        self.assertEqual(every.allowed("s", "two"), ())

    def test_drawn_lines(self):
        chance = random.Random(1)
        signals = all_signals(WORLD)
        for _ in range(60):
            side = chance.choice(["mine", "foe"])
            moves = {"mine": "cd", "foe": "cdx"}[side]
            bars = [(chance.choice("st*"), chance.choice(["one", "two", "*"]), chance.choice([*moves, "*"] if chance.random() < 0.2 else moves)) for _ in range(chance.randrange(5))]
            goes = []
            for _ in range(chance.randrange(8)):
                word = chance.choice(["*", chance.choice(signals), chance.choice("cd*") + "." + chance.choice("cdx*")])
                goes.append((chance.choice("stu*"), chance.choice(["one", "two", "*"]), chance.choice("cd*"), chance.choice("cdx*"), word, chance.choice("stu")))
            lines = ["bar " + " ".join(line) for line in bars] + ["go " + " ".join(line) for line in goes]
            chance.shuffle(lines)
            goes = [tuple(line.split(" ")[1:]) for line in lines if line.startswith("go")]
            book = Rulebook(WORLD, "\n".join(["state s t u", *lines]), side)
            for state, board in itertools.product("stu", ("one", "two")):
                barred = [move for a, b, move in bars if a in ("*", state) and b in ("*", board)]
                allowed = tuple(move for move in moves if move not in barred and "*" not in barred)
                self.assertEqual(book.allowed(state, board), allowed)
                for mine, foe, signal in itertools.product("cd", "cdx", signals):
                    found = [
                        line[5]
                        for line in goes
                        if all(word in ("*", told) for word, told in zip(line, (state, board, mine, foe))) and fits(line[4], signal)
                    ]
                    self.assertEqual(book.after(state, board, mine, foe, signal), found[-1] if found else state)

    def test_names(self):
        book = Rulebook(WORLD, TEXT, "mine" if False else "foe")
        told = ("s", "one", "c", "d", "up")
        for k, wrong in enumerate([("x", "*", "one", None, 1, ["s"], ("s",)), ("s", "*", "b", None, ["one"]), ("x", "*", None), ("up", "*", 1), ("c", "*", "*.d", "x.c", "c.c.", None, ["up"])]):
            for value in wrong:
                args = (*told[:k], value, *("?",) * (4 - k))
                self.check_error(BadName, (value,), book.after, *args)
                if k < 2:
                    self.check_error(BadName, (value,), book.allowed, *args[:2])

    def test_sides(self):
        for value in ["", "Foe", "both", None, 0, True, ["foe"], ("mine",), {}]:
            self.check_error(BadName, (value,), Rulebook, WORLD, None, value)
            self.check_error(BadName, (value,), Rulebook, WORLD, "x", side=value)
        self.check_bad("state s\nbar s one x", 2, 4, "mine")
        self.assertEqual(Rulebook(WORLD, "state s\nbar s one x").allowed("s", "one"), ("c", "d"))

    def test_wrong_texts(self):
        for value in [None, 1, b"state s", ["state s"]]:
            self.check_bad(value, 0, 0)
        wrong = [
            ("", 1, 1), ("\n", 1, 1), ("states s", 1, 1), ("state", 1, 2), ("state ", 1, 2), ("state s s", 1, 3), ("state *", 1, 2),
            ("state s ", 1, 3), ("state " + " ".join(f"a{k}" for k in range(25)), 1, 26),
        ]
        for text, line, column in wrong:
            self.check_bad(text, line, column)
        self.assertEqual(len(Rulebook(WORLD, "state " + " ".join(f"a{k}" for k in range(24))).states), 24)
        wrong = [
            ("play s one c:1", 1), ("", 1), ("start s:1", 1), (" bar s one c", 1), ("bar", 2), ("bar s", 3), ("bar s one", 4),
            ("bar s one c c", 5), ("bar s one c ", 5), ("bar x one c", 2), ("bar s x c", 3), ("bar s one y", 4), ("bar s  one c", 3),
            ("go", 2), ("go s", 3), ("go s one", 4), ("go s one c", 5), ("go s one c x", 6), ("go s one c x up", 7), ("go s one c x up s s", 8),
            ("go x one c x up s", 2), ("go s x c x up s", 3), ("go s one x c up s", 4), ("go s one c y up s", 5), ("go s one c x left s", 6),
            ("go s one c x x.c s", 6), ("go s one c x up *", 7), ("go s one c x up s:1", 7), ("go * * * * * ", 7), ("go * * * * *", 7), ("bar x x x x", 2),
        ]
        for text, column in wrong:
            self.check_bad("state s\nbar s one c\n" + text + "\nbar x", 3, column)
        good = "state s\nbar * * *\ngo * * * * * s\ngo s one c x *.* s\ngo s one c x c.* s\ngo s one c x *.x s\ngo s one c x down s"
        self.assertEqual(Rulebook(WORLD, good).states, ("s",))


if __name__ == "__main__":
    unittest.main()
