import itertools
import random

from everyfoe.errors import BadName, BadNumber, BadText, TooLarge, Untold
from everyfoe.plans import Plan
from everyfoe.quotients import Quotient
from everyfoe.worlds import World
from tests.helper import CheckCase, fraction
from tests.test_worlds import NO_INNER, NO_STRINGS, told

WORLD = World(
    "mine c d\nfoe c d x\nboard one\npay * * 0 0\nsignal c d up:1\nsignal d * left:1/2 right:1/2\nsignal d * up:1\ngo * d two:1\n"
    "board two\npay * * 1 1\ngo * * one:1/2 two:1/2\n"
)
LETTERED = World("mine c d\nfoe c d\nboard b\npay * * 0 0\nsignal * c up:e down:1-e\n")
SIGNALS = ["up", "left", "right"] + [f"{one}.{other}" for one in "cd" for other in "cdx"]
MOVES = {"mine": "cd", "foe": "cdx"}


def fits(word, signal):
    """Whether a word SIGNAL fits a signal."""
    if word == "*" or word == signal:
        return True
    if "." not in word or "." not in signal:
        return False
    return all(a in ("*", b) for a, b in zip(word.split("."), signal.split(".")))


class PlanCase(CheckCase):
    def check_bad(self, text, line, column, side="mine", world=WORLD):
        self.check_error(BadText, (line, column), Plan, world, text, side)


class PlanTest(PlanCase):
    def test_attributes(self):
        text = "state s t\nplay s * c:1/3 d:2/3\nplay t * d:1\n"
        plan = Plan(WORLD, text)
        self.assertIs(plan.world, WORLD)
        self.assertEqual((plan.text, plan.side, plan.states), (text, "mine", ("s", "t")))
        self.assertEqual(plan.start, (("s", (1, 1)),))
        self.assertIs(plan.lettered, False)
        self.assertEqual(plan.play("s", "one"), (("c", (1, 3)), ("d", (2, 3))))
        self.assertEqual(plan.play("t", "two"), (("d", (1, 1)),))
        self.assertEqual(plan.after("t", "two", "c", "c.d"), (("t", (1, 1)),))

    def test_sides(self):
        for side in ("mine", "foe"):
            text = "state s\nplay s * d:1/2 c:1/2"
            for plan in (Plan(WORLD, text, side), Plan(WORLD, text, side=side)):
                self.assertEqual(plan.side, side)
                self.assertEqual(plan.play("s", "one"), (("c", (1, 2)), ("d", (1, 2))))
        self.assertEqual(Plan(WORLD, "state s\nplay s * c:1").side, "mine")
        self.assertEqual(Plan(WORLD, "state s\nplay s * x:1", "foe").play("s", "two"), (("x", (1, 1)),))
        self.check_bad("state s\nplay s * x:1", 2, 4)
        for value in ["", "Mine", "both", None, 0, True, ["mine"], ("foe",), {}]:
            self.check_error(BadName, (value,), Plan, WORLD, None, value)
            self.check_error(BadName, (value,), Plan, WORLD, "x", side=value)

    def test_orders(self):
        text = "go * * * * u:1/4 s:1/2 t:1/4\nstart t:1/6 u:1/2 s:1/3\nplay * * x:1/8 d:1/8 c:3/4"
        plan = Plan(WORLD, "state s t u\n" + text, "foe")
        self.assertEqual(plan.start, (("s", (1, 3)), ("t", (1, 6)), ("u", (1, 2))))
        self.assertEqual(plan.play("u", "one"), (("c", (3, 4)), ("d", (1, 8)), ("x", (1, 8))))
        self.assertEqual(plan.after("u", "one", "x", "up"), (("s", (1, 2)), ("t", (1, 4)), ("u", (1, 4))))
        self.assertEqual(Plan(WORLD, "state s t\nplay * * c:1\nstart t:1").start, (("t", (1, 1)),))

    def test_lines_that_count(self):
        chance = random.Random(1)
        for _ in range(60):
            side = chance.choice(["mine", "foe"])
            moves = MOVES[side]
            plays = [("*", "*", moves[0])]
            plays += [(chance.choice(["s", "t", "*"]), chance.choice(["one", "two", "*"]), chance.choice(moves)) for _ in range(5)]
            goes = []
            for _ in range(chance.randrange(9)):
                word = chance.choice(["*", chance.choice(SIGNALS), chance.choice("cd*") + "." + chance.choice("cdx*")])
                goes.append((chance.choice("st*"), chance.choice(["one", "two", "*"]), chance.choice(moves + "*"), word, chance.choice("stu")))
            lines = [f"play {s} {b} {m}:1" for s, b, m in plays]
            lines += [f"go {s} {b} {m} {word} {goal}:1" for s, b, m, word, goal in goes]
            plan = Plan(WORLD, "\n".join(["state s t u", *lines]), side)
            for state, board in itertools.product("stu", WORLD.boards):
                last = [m for s, b, m in plays if s in ("*", state) and b in ("*", board)][-1]
                self.assertEqual(plan.play(state, board), ((last, (1, 1)),))
                for move, signal in itertools.product(moves, SIGNALS):
                    goals = [state]
                    goals += [goal for s, b, m, word, goal in goes if s in ("*", state) and b in ("*", board) and m in ("*", move) and fits(word, signal)]
                    self.assertEqual(plan.after(state, board, move, signal), ((goals[-1], (1, 1)),))

    def test_signals(self):
        base = "state s t\nplay * * c:1\ngo s * * "
        for word in ["*", "*.*", *SIGNALS, "c.*", "d.*", "*.c", "*.x"]:
            for side in ("mine", "foe"):
                plan = Plan(WORLD, base + word + " t:1", side)
                for signal in SIGNALS:
                    self.assertEqual(plan.after("s", "two", "c", signal)[0][0], "t" if fits(word, signal) else "s")
        for word in ["", "down", "c", "one", "x.c", "c.c.c", "c.", ".c", ".", "*.", "**", "*.*.*", "c.y", "X.c", "c d"]:
            self.check_bad(base + word + " t:1", 3, 5)

    def test_bad_names(self):
        plan = Plan(WORLD, "state s t\nplay * * c:1\n")
        for value in ["", "*", "c", "one", None, 1, True, ["s"], ("s",), {}]:
            self.check_error(BadName, (value,), plan.play, value, "three")
            self.check_error(BadName, (value,), plan.after, value, "three", "x", "y")
        for value in ["", "*", "c", "s", None, 1, ["one"], {}]:
            self.check_error(BadName, (value,), plan.play, "s", value)
            self.check_error(BadName, (value,), plan.after, "s", value, "x", "y")
        for value in ["", "*", "x", "s", None, 1, ["c"], {}]:
            self.check_error(BadName, (value,), plan.after, "s", "one", value, "y")
        for value in ["", "*", "c", "*.*", "c.*", "down", "x.c", "c.c.c", None, 1, ["up"], {}, ("c", "d")]:
            self.check_error(BadName, (value,), plan.after, "s", "one", "c", value)
        foe = Plan(WORLD, "state s t\nplay * * c:1\n", "foe")
        self.assertEqual(foe.after("s", "one", "x", "c.x"), (("s", (1, 1)),))

    def test_many_states(self):
        for many in (1, 2, 999):
            names = [f"s{k}" for k in range(many)]
            text = "state " + " ".join(names) + "\nplay * * c:1\n"
            text += "".join(f"go s{k} * * * s{(k + 1) % many}:1\n" for k in range(many))
            text += "start " + " ".join(f"{name}:1/{many}" for name in reversed(names))
            plan = Plan(WORLD, text)
            self.assertEqual(plan.states, tuple(names))
            self.assertEqual(plan.start, tuple((name, (1, many)) for name in names))
            self.assertEqual(plan.after(names[-1], "one", "d", "left"), (("s0", (1, 1)),))
        for many in (1000, 1001):
            self.check_bad("state " + " ".join(f"s{k}" for k in range(many)) + "\nx", 1, 1001)


class LetterTest(PlanCase):
    def test_the_letter_is_the_plans_own(self):
        plan = Plan(LETTERED, "state s t\nplay * * c:1\ngo * * * up t:1\n")
        self.assertIs(plan.lettered, False)
        self.assertEqual(plan.after("s", "b", "c", "up"), (("t", (1, 1)),))
        plan = Plan(WORLD, "state s t\nplay s * d:e c:1-e\nplay t * c:1\n")
        self.assertIs(plan.lettered, True)
        self.assertEqual(told(plan.play("s", "one")), {"c": ((1, -1), (1,)), "d": ((0, 1), (1,))})
        for pairs in (plan.start, plan.play("s", "one"), plan.play("t", "one"), plan.after("s", "one", "c", "up")):
            self.assertTrue(all(type(chance) is Quotient for _, chance in pairs))
        self.assertEqual(told(plan.start), {"s": ((1,), (1,))})
        self.assertEqual(told(plan.after("t", "one", "c", "up")), {"t": ((1,), (1,))})

    def test_only_lines_that_count_make_a_letter(self):
        for lines, lettered in [
            ("start s:e t:1-e\nplay * * c:1", True), ("start s:1-e+e\nplay * * c:1", False),
            ("play * * c:e d:1-e\nplay * * c:1", False), ("play * * c:e d:1-e\nplay s * c:1\nplay t one c:1", True),
            ("play * * c:1\ngo * * * * s:e t:1-e", True), ("play * * c:1\ngo * * * * s:e t:1-e\ngo * * * * s:1", False),
            ("play * * c:1\ngo * * * * s:e t:1-e\ngo * * * *.* s:1", True),
            ("play * * c:1\ngo * * * *.* s:e t:1-e\ngo * * * * s:1", False),
            ("play * * c:1\ngo * * * c.d s:e t:1-e\ngo * * * *.d s:1", False),
            ("play * * c:1\ngo * * * *.d s:e t:1-e\ngo * * * c.d s:1", True),
            ("play * * c:1\ngo s one d up s:e t:1-e\ngo s one c * s:1\ngo s two * * s:1\ngo t * * * s:1", True),
            ("play * * c:1\ngo s one d up s:e t:1-e\ngo s one * * s:1", False),
            ("play * * c:1\ngo s one d up s:1/2+0*e t:1/2", False),
        ]:
            plan = Plan(WORLD, "state s t\n" + lines)
            self.assertIs(plan.lettered, lettered, lines)
            kind = Quotient if lettered else tuple
            for state, board, move, signal in itertools.product("st", WORLD.boards, "cd", SIGNALS):
                for _, number in plan.start + plan.play(state, board) + plan.after(state, board, move, signal):
                    self.assertIs(type(number), kind)

    def test_settled(self):
        text = "state s t\nstart s:e t:1-e\nplay s * c:1-e^2 d:e^2\nplay t * d:1/2+0*e c:2/4\ngo s * c up t:1/2*e s:1-1/2*e\ngo t * * * t:1\n"
        plan = Plan(LETTERED, text)
        found = plan.settled((2, 6))
        expected = text.replace("s:e t:1-e", "s:1/3 t:2/3").replace("c:1-e^2 d:e^2", "c:8/9 d:1/9")
        expected = expected.replace("t:1/2*e s:1-1/2*e", "t:1/6 s:5/6")
        self.assertEqual((found.text, found.side, found.lettered), (expected, "mine", False))
        self.assertEqual(found.world.text, LETTERED.settled((1, 3)).text)
        self.assertEqual(found.start, (("s", (1, 3)), ("t", (2, 3))))
        self.assertEqual(found.play("s", "b"), (("c", (8, 9)), ("d", (1, 9))))
        self.assertEqual(found.after("s", "b", "c", "up"), (("s", (5, 6)), ("t", (1, 6))))
        self.assertEqual((plan.text, plan.lettered), (text, True))
        self.assertEqual(Plan(LETTERED, text[:-1], "foe").settled((1, 3)).text, expected[:-1])
        self.assertEqual(Plan(LETTERED, text[:-1], "foe").settled((1, 3)).side, "foe")
        plain = Plan(WORLD, "state start play go\nplay * * c:1\n")
        self.assertEqual(plain.settled((1, 2)).text, plain.text)

    def test_settled_errors(self):
        plan = Plan(LETTERED, "state s\nplay * * c:e^6 d:1-e^6\n")
        for value in NO_INNER:
            self.check_error(BadNumber, ("e", value), plan.settled, value)
        ratio = (1, 10 ** 4001)
        self.check_error(TooLarge, ("digits", 4002, 4000), plan.settled, ratio)
        ratio = (1, 10 ** 3999)
        found = Plan(LETTERED, "state s\nplay * * c:e d:1-e\n").settled(ratio)
        self.assertEqual(found.play("s", "b")[0][1], ratio)
        ratio = (1, 10 ** 1000)
        self.check_error(TooLarge, ("digits", 6001, 4000), plan.settled, ratio)
        found = Plan(LETTERED, "state s\nplay * * c:e^3 d:1-e^3\n").settled(ratio)
        self.assertEqual(fraction(found.play("s", "b")[0][1]), fraction(ratio) ** 3)


class WrongTextTest(PlanCase):
    def test_values_that_are_no_strings(self):
        for value in NO_STRINGS:
            self.check_bad(value, 0, 0)

    def test_lines_of_states(self):
        for text, column in [
            ("", 1), ("\n", 1), ("states s", 1), ("play s * c:1", 1), ("state", 2), ("state ", 2), ("state s s", 3), ("state s S", 3), ("state *", 2),
            ("state s ", 3), ("state s.t", 2), ("state s:1", 2), ("state abcdefghijklm", 2), (" state s", 1), ("state  s", 2), ("state s t s x", 4),
        ]:
            self.check_bad(text, 1, column)

    def test_first_words(self):
        for word in ["", "state", "board", "pay", "signal", "Play", "x", "*"]:
            self.check_bad("state s\n" + word + " s one c:1\nx", 2, 1)
        self.check_bad("state s\nplay * * c:1\n\n", 3, 1)
        self.check_bad("state s\nplay * * c:1\n ", 3, 1)

    def test_lines_start(self):
        for words, column in [
            ("", 2), (" ", 2), (" s", 2), (" u:1", 2), (" *:1", 2), (" s:1/2", 3), (" s:1/2 s:1/2", 3), (" s:1/2 t:1/3", 4), (" s:1/2 t:1/2 u:1", 4), (" s:1/2 t:1/2 ", 4),
            (" s:0", 2), (" s:1 t:0", 3), (" s:1-2*e t:2*e", 2), (" s:e t:e", 4), (" s: t:1", 2), (" :1", 2), (" s:1:1", 2), (" s:3/2 t:-1/2", 3),
        ]:
            self.check_bad("state s t\nstart" + words + "\nx", 2, column)

    def test_a_second_start(self):
        self.check_bad("state s t\nstart s:1\nplay * * c:1\nstart t:1", 4, 1)
        self.check_bad("state s t\nstart s:1\nstart u:1", 3, 1)
        self.check_bad("state s t\nstart s:1/2\nstart s:1", 2, 3)

    def test_lines_play(self):
        for words, column in [
            ("", 2), (" s", 3), (" s one", 4), (" u one c:1", 2), (" s three c:1", 3), (" one s c:1", 2), (" s one c", 4), (" s one x:1", 4), (" s one *:1", 4),
            (" s one c:1/2", 5), (" s one c:1/2 c:1/2", 5), (" s one c:1/2 d:1/2 c:1", 6), (" ** * c:1", 2), (" s  c:1", 3), (" s one c:1 ", 5), (" u three x:1", 2),
        ]:
            self.check_bad("state s t\nplay" + words + "\nx", 2, column)

    def test_lines_go(self):
        for words, column in [
            ("", 2), (" s", 3), (" s one", 4), (" s one c", 5), (" s one c up", 6), (" u one c up s:1", 2), (" s three c up s:1", 3), (" s one x up s:1", 4),
            (" s one c down s:1", 5), (" s one c c.y s:1", 5), (" s one c up u:1", 6), (" s one c up s", 6), (" s one c up s:1/2", 7), (" s one c up s:1/2 t:1/3", 8),
            (" s one c up s:1/2 s:1/2", 7), (" s one c up s:1/2 t:1/2 s:1", 8), (" * * * * *:1", 6), (" * * * * c:1", 6), (" * * * ** s:1", 5), (" s one c up s:1 ", 7), (" u one x down s:2", 2),
        ]:
            self.check_bad("state s t\nplay * * c:1\ngo" + words + "\nx", 3, column)

    def test_the_first_wrong_line(self):
        self.check_bad("state s\nplay s one c:1/2\nplay s one", 2, 5)
        self.check_bad("state s\nplay s one c:1/2\nplay s one", 2, 5, "foe")

    def test_untold(self):
        for text, board, state in [
            ("state s t", "one", "s"), ("state s t\n", "one", "s"), ("state s t\nplay s * c:1", "one", "t"), ("state s t\nplay * one c:1", "two", "s"),
            ("state s t\nplay s * c:1\nplay t one c:1\nstart s:1", "two", "t"), ("state s t\nplay t * c:1", "one", "s"),
        ]:
            self.check_error(Untold, (board, (state,)), Plan, WORLD, text)
            self.check_error(BadText, (text.rstrip("\n").count("\n") + 2, 1), Plan, WORLD, text.rstrip("\n") + "\nx")
