import itertools
import random
from fractions import Fraction

from everyfoe.builders import Least, followed, least, look_back, mixed, trembled
from everyfoe.errors import BadName, BadNumber, BadText, HasLetter, TooLarge, TooMany, Unlike, Untold
from everyfoe.plans import Plan
from everyfoe.quotients import Quotient, quotient_text
from everyfoe.worlds import World, all_signals
from tests.helper import CheckCase, pair
from tests.making import drawn_plan, drawn_world

WORLD = World(
    "mine c d\nfoe c d\nboard one\npay * * 0 0\nsignal c * down:1\nsignal c c up:1/2 down:1/2\nsignal d * up:1\nsignal d d down:1\n"
    "signal c d never:1\nsignal c d up:1\nboard two\npay * * 1 1\nsignal * * up:1\n"
)
TABLE = World("mine c d\nfoe c d\nboard b\npay * * 1 2\n")
OTHER = World("mine c d\nfoe c d\nboard b\npay * * 1 3\n")
ONE_WAY = World("mine c\nfoe c\nboard b\npay * * 1 2\n")
MESSY = World("mine c d\nfoe c d\nboard b\npay * * 1 2\nsignal * * up:e down:1-e\n")


def tables(plan):
    """All that a plan tells, but its text; chances as they are told."""
    moves = plan.world.mine if plan.side == "mine" else plan.world.foe
    plays = {(state, board): plan.play(state, board) for state in plan.states for board in plan.world.boards}
    goes = {
        key: plan.after(*key)
        for key in itertools.product(plan.states, plan.world.boards, moves, all_signals(plan.world))
    }
    return plan.states, plan.side, plan.lettered, shown(plan.start), shown(plays), shown(goes)


def shown(value):
    if isinstance(value, Quotient):
        return quotient_text(value)
    if isinstance(value, dict):
        return {key: shown(item) for key, item in value.items()}
    return tuple(shown(item) for item in value) if isinstance(value, tuple) else value


def names(many):
    return tuple(f"s{k + 1}" for k in range(many))


class BuiltCase(CheckCase):
    def check_built(self, plan, world, side):
        """What holds of every built plan."""
        self.assertIsInstance(plan, Plan)
        self.assertIs(plan.world, world)
        self.assertEqual(plan.side, side)
        self.assertEqual(plan.states, names(len(plan.states)))
        self.assertEqual(tables(Plan(world, plan.text, side)), tables(plan))

    def check_copy(self, built, plan, offset):
        """The built plan plays and goes on as the plan, in states from offset on."""
        places = {state: f"s{offset + k + 1}" for k, state in enumerate(plan.states)}
        moves = plan.world.mine if plan.side == "mine" else plan.world.foe
        for state, board in itertools.product(plan.states, plan.world.boards):
            self.assertEqual(values(built.play(places[state], board)), values(plan.play(state, board)))
            for move, signal in itertools.product(moves, all_signals(plan.world)):
                after = tuple((places[name], chance) for name, chance in plan.after(state, board, move, signal))
                self.assertEqual(values(built.after(places[state], board, move, signal)), values(after))


def values(pairs):
    """A distribution with all chances as texts of polynomials."""
    return [(name, quotient_text(chance if isinstance(chance, Quotient) else as_quotient(chance))) for name, chance in pairs]


def as_quotient(chance):
    return Quotient((chance[0],) if chance[0] else (), (chance[1],))


def past_fits(word, past):
    if word in ("*", "-"):
        return word == "*" or past == ()
    parts = word.split(",")
    return len(parts) <= len(past) and all(fits(a, b) for a, b in zip(parts, past[-len(parts):]))


def fits(word, signal):
    if word in ("*", signal):
        return True
    if "." not in word or "." not in signal:
        return False
    return all(a in ("*", b) for a, b in zip(word.split("."), signal.split(".")))


class LookBackTest(BuiltCase):
    def test_depth_0(self):
        for text in ("play * * c:1/2 d:1/2\n", "play - * c:1/2 d:1/2", "play * * d:1\nplay * one c:1\nplay - * d:1/2 c:1/2"):
            for side in ("mine", "foe"):
                plan = look_back(WORLD, 0, text, side)
                self.check_built(plan, WORLD, side)
                self.assertEqual(plan.states, ("s1",))
                self.assertEqual(plan.start, (("s1", (1, 1)),))
                for board in WORLD.boards:
                    self.assertEqual(plan.play("s1", board), (("c", (1, 2)), ("d", (1, 2))))
                self.assertEqual(plan.after("s1", "two", "c", "up"), (("s1", (1, 1)),))

    def test_depth_1(self):
        text = "play * * c:1\nplay - one d:1\nplay up * c:1/2 d:1/2\nplay down one d:1\n"
        plan = look_back(WORLD, 1, text, "mine")
        self.check_built(plan, WORLD, "mine")
        # up and down can be given, in this order; never can not, nor any M.F.
        self.assertEqual(plan.states, ("s1", "s2", "s3"))
        half = (("c", (1, 2)), ("d", (1, 2)))
        sure = {move: ((move, (1, 1)),) for move in "cd"}
        self.assertEqual([plan.play(state, "one") for state in plan.states], [sure["d"], half, sure["d"]])
        self.assertEqual([plan.play(state, "two") for state in plan.states], [sure["c"], half, sure["c"]])
        for state in plan.states:
            self.assertEqual(plan.after(state, "one", "d", "up"), (("s2", (1, 1)),))
            self.assertEqual(plan.after(state, "two", "c", "down"), (("s3", (1, 1)),))
            for signal in ("never", "c.c", "d.d"):
                self.assertEqual(plan.after(state, "one", "c", signal), ((state, (1, 1)),))

    def test_drawn_lines(self):
        chance = random.Random(1)
        for _ in range(60):
            world = chance.choice([WORLD, TABLE, ONE_WAY, MESSY])
            side = chance.choice(["mine", "foe"])
            depth = chance.randrange({WORLD: 4, TABLE: 2, ONE_WAY: 5, MESSY: 4}[world])
            given = {WORLD: ["up", "down"], MESSY: ["up", "down"], ONE_WAY: ["c.c"], TABLE: ["c.c", "c.d", "d.c", "d.d"]}[world]
            words = ["*", *world.signal_names, "c.*", "*.c", "*.*", "c.c"]
            lines = [("*", "*", "c:1")] if chance.random() < 0.8 else [("*", board, "c:1") for board in world.boards]
            for _ in range(chance.randrange(8)):
                past = ",".join(chance.choice(words) for _ in range(chance.randrange(depth + 1))) or "-"
                moves = "c:1" if world is ONE_WAY else chance.choice(["d:1", "c:1/3 d:2/3", "d:1-e c:e"])
                lines.append((past, chance.choice(["*", *world.boards]), moves))
            plan = look_back(world, depth, "".join(f"play {a} {b} {moves}\n" for a, b, moves in lines), side)
            self.check_built(plan, world, side)
            pasts = [past for size in range(depth + 1) for past in itertools.product(given, repeat=size)]
            self.assertEqual(plan.states, names(len(pasts)))
            self.assertEqual(values(plan.start), [("s1", "1")])
            for k, past in enumerate(pasts):
                for board in world.boards:
                    moves = [moves for a, b, moves in lines if past_fits(a, past) and b in ("*", board)][-1]
                    expected = [tuple(word.split(":")) for word in sorted(moves.split(" "))]
                    self.assertEqual(values(plan.play(f"s{k + 1}", board)), expected)
                    for move, signal in itertools.product("c" if world is ONE_WAY else "cd", all_signals(world)):
                        seen = (past + (signal,))[-depth:] if depth else ()
                        at = pasts.index(seen) if signal in given else k
                        self.assertEqual(values(plan.after(f"s{k + 1}", board, move, signal)), [(f"s{at + 1}", "1")])

    def test_stars_in_pasts(self):
        # A star alone fits the empty past too, two of them need two signals.
        plan = look_back(ONE_WAY, 3, "play * * c:1", "foe")
        self.assertEqual(len(plan.states), 4)
        world = World(ONE_WAY.text.replace("mine c", "mine c d").replace("foe c", "foe c d") + "signal * * s:1\n")
        plan = look_back(world, 3, "play * * c:1\nplay *,* * d:1\nplay *,*,* b c:1/2 d:1/2", "foe")
        self.assertEqual([len(plan.play(state, "b")) for state in plan.states], [1, 1, 1, 2])
        self.assertEqual([plan.play(state, "b")[0][0] for state in plan.states], ["c", "c", "d", "c"])

    def test_many_states(self):
        for depth, many in ((23, 24), (22, 23)):
            plan = look_back(ONE_WAY, depth, "play * * c:1\n", "mine")
            self.check_built(plan, ONE_WAY, "mine")
            self.assertEqual(len(plan.states), many)
            self.assertEqual(plan.after(plan.states[-1], "b", "c", "c.c"), ((plan.states[-1], (1, 1)),))
            self.assertEqual(plan.after(plan.states[-2], "b", "c", "c.c"), ((plan.states[-1], (1, 1)),))
        self.check_error(TooMany, ("states", 31, 24), look_back, WORLD, 4, None, "mine")
        self.check_error(TooMany, ("states", 2 ** 24 - 1, 24), look_back, WORLD, 23, "x", "foe")
        self.check_error(TooMany, ("states", (4 ** 24 - 1) // 3, 24), look_back, TABLE, 23, "", "foe")
        self.assertEqual(len(look_back(WORLD, 3, "play * * c:1", "mine").states), 15)
        three = World("mine c\nfoe c\nboard b\npay * * 1 2\nsignal * * u:1/3 v:1/3 w:1/3\n")
        self.assertEqual(len(look_back(three, 2, "play * * c:1", "mine").states), 13)
        self.check_error(TooMany, ("states", 40, 24), look_back, three, 3, "", "mine")
        more = World("mine c\nfoe c\nboard b\npay * * 1 2\nsignal * * " + " ".join(f"u{k}:1/23" for k in range(23)))
        self.assertEqual(len(look_back(more, 1, "play * * c:1", "mine").states), 24)

    def test_arguments(self):
        for value in [-1, 24, 10 ** 400, None, "1", True, False, (1, 1), [1]]:
            self.check_error(BadNumber, ("depth", value), look_back, WORLD, value, None, "both")
        for value in ["", "both", None, 1, ["mine"], ("foe",)]:
            self.check_error(BadName, (value,), look_back, WORLD, 23, None, value)
        for value in [None, 1, b"play * * c:1", ["play * * c:1"]]:
            self.check_error(BadText, (0, 0), look_back, WORLD, 1, value, "mine")

    def test_wrong_texts(self):
        good = "play * * c:1\n"
        wrong = [
            ("state s\n", 1, 1), ("go * * c:1\n", 1, 1), ("\n", 1, 1), (" play * * c:1", 1, 1), ("Play * * c:1", 1, 1),
            ("play", 1, 2), ("play *", 1, 3), ("play * *", 1, 4), ("play * * c", 1, 4), ("play * * c:1 ", 1, 5),
            ("play * * c:1/2", 1, 5), ("play  * * c:1", 1, 2), ("play * x c:1", 1, 3), ("play * one x:1", 1, 4),
            ("play up,up,up * c:1", 1, 2), ("play up, * c:1", 1, 2), ("play ,up * c:1", 1, 2), ("play up,-,up * c:1", 1, 2),
            ("play -,- * c:1", 1, 2), ("play x * c:1", 1, 2), ("play c * c:1", 1, 2), ("play c.x * c:1", 1, 2),
            ("play x x x", 1, 2), ("play * x x", 1, 3), ("play up,down * c:1 c:0", 1, 5), ("play *,* * c:1/2 d:1/3", 1, 6),
        ]
        for text, line, column in wrong:
            self.check_error(BadText, (line, column), look_back, WORLD, 2, text, "mine")
            self.check_error(BadText, (line + 1, column), look_back, WORLD, 2, good + text + "\nx", "foe")
        # A name that can never be given is a word SIGNAL all the same.
        look_back(WORLD, 2, good + "play never,c.* * c:1", "mine")
        # With depth 0 there are no words of signals.
        self.check_error(BadText, (1, 2), look_back, WORLD, 0, "play up * c:1", "mine")
        self.check_error(BadText, (1, 2), look_back, WORLD, 1, "play up,up * c:1", "mine")

    def test_untold(self):
        check = self.check_error
        check(Untold, ("one", ()), look_back, WORLD, 1, "", "mine")
        check(Untold, ("one", ()), look_back, WORLD, 1, "play up * c:1\nplay * two c:1", "mine")
        check(Untold, ("two", ()), look_back, WORLD, 1, "play up * c:1\nplay * one c:1", "mine")
        check(Untold, ("one", ("up",)), look_back, WORLD, 1, "play - * c:1", "mine")
        check(Untold, ("two", ("down",)), look_back, WORLD, 1, "play - * c:1\nplay up * c:1\nplay down one c:1", "foe")
        lines = "play - * c:1\nplay * two c:1\nplay up one c:1\nplay down,down * d:1\n"
        check(Untold, ("one", ("down",)), look_back, WORLD, 2, lines, "foe")
        check(BadText, (2, 1), look_back, WORLD, 1, "play - * c:1\nx", "mine")

    def test_large_chances(self):
        # The chances add up to 1, but one of them is told as a sum.
        for many in (3991, 3999, 4000, 4001, 4005, 4011, 4601):
            below = 10 ** (many // 2) + 3
            other = 10 ** (many - many // 2 - 1) + 7
            rest = Fraction(1, below) + Fraction(1, other)
            size = len(str_of(rest.denominator))
            text = f"play * * c:1/{below}+1/{other} d:1-1/{below}-1/{other}\n"
            if size > 4000:
                self.check_error(TooLarge, ("digits", size, 4000), look_back, WORLD, 1, text, "mine")
                plan = look_back(WORLD, 1, text + "play * * c:1", "mine")
                self.assertEqual(len(plan.play("s1", "one")), 1)
                self.check_error(TooLarge, ("digits", size, 4000), look_back, WORLD, 1, text + "play * one c:1", "mine")
                self.check_error(Untold, ("two", ()), look_back, WORLD, 1, text.replace("play * *", "play * one"), "mine")
            else:
                plan = look_back(WORLD, 1, text, "mine")
                self.assertEqual(plan.play("s3", "two")[0][1], pair(rest))


def str_of(number):
    """The digits of a number that Python may not write itself."""
    out = ""
    while number:
        number, rest = divmod(number, 10 ** 1000)
        out = str(rest).rjust(1000, "0") + out
    return out.lstrip("0")


class SidesTest(BuiltCase):
    def test_moves_of_the_sides(self):
        world = World("mine c d\nfoe x y z\nboard b\npay * * 0 0\nsignal * * u:1\n")
        third = ("1/3*e", "1/3*e", "1-2/3*e")
        for side, moves in (("mine", "cd"), ("foe", "xyz")):
            other = "xyz" if side == "mine" else "cd"
            plan = look_back(world, 1, f"play * * {moves[-1]}:1\n", side)
            self.check_built(plan, world, side)
            self.assertEqual(plan.play("s2", "b"), ((moves[-1], (1, 1)),))
            self.check_error(BadText, (1, 4), look_back, world, 1, f"play * * {other[0]}:1\n", side)
            self.assertEqual([move for move, _ in trembled(world, plan).play("s1", "b")], list(moves))
            given = Plan(world, f"state s t\nplay s b {moves[0]}:1\nplay t b {moves[0]}:1\ngo s * {moves[0]} u t:1\ngo t * {moves[1]} u s:1\n", side)
            self.assertEqual(least(world, given).groups, (("s", "t"),))
        plan = Plan(world, "state s\nplay s b z:1\n", "foe")
        self.assertEqual(values(trembled(world, plan).play("s1", "b")), list(zip("xyz", third)))


class FollowedTest(BuiltCase):
    def test_rounds(self):
        chance = random.Random(2)
        for count in range(40):
            letter = count % 2 == 1
            world = chance.choice([WORLD, TABLE, MESSY])
            side = chance.choice(["mine", "foe"])
            first = drawn_plan(chance, world, side, chance.randint(1, 3), letter)
            second = drawn_plan(chance, world, side, chance.randint(1, 3), letter and chance.random() < 0.5, prefix="z")
            rounds = chance.randrange(5)
            plan = followed(world, first, rounds, second)
            self.check_built(plan, world, side)
            width = len(first.states)
            behind = rounds * width
            self.assertEqual(plan.states, names(behind + len(second.states)))
            self.check_copy(plan, second, behind)
            entry = tuple((f"s{behind + second.states.index(state) + 1}", part) for state, part in second.start)
            begin = tuple((f"s{first.states.index(state) + 1}", part) for state, part in first.start)
            self.assertEqual(values(plan.start), values(begin if rounds else entry))
            for k, (j, state) in itertools.product(range(rounds), enumerate(first.states)):
                at = f"s{k * width + j + 1}"
                for board in world.boards:
                    self.assertEqual(values(plan.play(at, board)), values(first.play(state, board)))
                    for move, signal in itertools.product("cd", all_signals(world)):
                        after = entry
                        if k + 1 < rounds:
                            goals = first.after(state, board, move, signal)
                            after = tuple((f"s{(k + 1) * width + first.states.index(goal) + 1}", part) for goal, part in goals)
                        self.assertEqual(values(plan.after(at, board, move, signal)), values(after))

    def test_many_states(self):
        first = drawn_plan(random.Random(3), TABLE, states=5)
        second = drawn_plan(random.Random(4), TABLE, states=4)
        self.assertEqual(len(followed(TABLE, first, 4, second).states), 24)
        self.check_error(TooMany, ("states", 29, 24), followed, TABLE, first, 5, second)
        self.check_error(TooMany, ("states", 25, 24), followed, TABLE, second, 5, first)
        self.check_error(TooMany, ("states", 5 * 10 ** 400 + 4, 24), followed, TABLE, first, 10 ** 400, second)

    def test_errors(self):
        mine = drawn_plan(random.Random(3), TABLE)
        foe = drawn_plan(random.Random(3), TABLE, "foe")
        far = drawn_plan(random.Random(3), OTHER)
        far_foe = drawn_plan(random.Random(3), OTHER, "foe")
        for value in [-1, None, "1", True, False, (1, 1), (0, 1)]:
            self.check_error(BadNumber, ("rounds", value), followed, OTHER, mine, value, foe)
        self.check_error(Unlike, ("side",), followed, OTHER, mine, 1, foe)
        self.check_error(Unlike, ("side",), followed, TABLE, foe, 99, mine)
        self.check_error(Unlike, ("side",), followed, TABLE, mine, 0, far_foe)
        for first, second, world in ((mine, far, TABLE), (far, mine, TABLE), (far, far, TABLE), (mine, mine, OTHER)):
            self.check_error(Unlike, ("world",), followed, world, first, 99, second)
        again = World(TABLE.text)
        plan = followed(again, mine, 1, drawn_plan(random.Random(5), World(TABLE.text)))
        self.check_built(plan, again, "mine")
        self.check_error(Unlike, ("world",), followed, World(TABLE.text.rstrip("\n")), mine, 1, mine)

    def test_large_chances(self):
        # Only what the built plan returns must be written.
        big = long_plan(4601)
        short = Plan(WORLD, "state s\nplay s * c:1")
        self.check_error(TooLarge, ("digits", 4601, 4000), followed, WORLD, big, 2, short)
        self.check_error(TooLarge, ("digits", 4601, 4000), followed, WORLD, short, 2, big)
        self.check_built(followed(WORLD, big, 0, short), WORLD, "mine")
        self.check_built(followed(WORLD, big, 1, short), WORLD, "mine")
        self.check_error(TooLarge, ("digits", 4301, 4000), followed, WORLD, long_plan(4301), 2, long_plan(4201))


def long_sum(many):
    """A CHANCE and one less it, whose bottom has so many digits."""
    below, other = 10 ** (many // 2) + 3, 10 ** (many - many // 2 - 1) + 7
    rest = Fraction(1, below) + Fraction(1, other)
    assert len(str_of(rest.denominator)) == many
    return f"1/{below}+1/{other}", f"1-1/{below}-1/{other}"


def long_plan(many, line="go s * * * "):
    """A plan with a line of such chances."""
    one, rest = long_sum(many)
    return Plan(WORLD, f"state s t\nplay * * c:1\n{line}s:{one} t:{rest}\n")


class MixedTest(BuiltCase):
    def test_drawn_plans(self):
        chance = random.Random(6)
        for count in range(40):
            world = chance.choice([WORLD, TABLE, MESSY])
            side = chance.choice(["mine", "foe"])
            plans = [drawn_plan(chance, world, side, chance.randint(1, 3), chance.random() < 0.3, prefix=chance.choice("qz")) for _ in range(chance.randint(1, 4))]
            weights = [chance.randrange(4) for _ in plans]
            weights[chance.randrange(len(plans))] += 1
            scale = chance.randint(1, 3)
            chances = [(scale * weight, scale * sum(weights)) for weight in weights]
            chances = [chance.choice([0, (0, 7)]) if not top else 1 if top == bottom else (top, bottom) for top, bottom in chances]
            given = chance.choice([list, tuple])(chances)
            listed = chance.choice([list, tuple])(plans)
            plan = mixed(world, listed, given)
            self.check_built(plan, world, side)
            self.assertEqual((list(given), list(listed)), (chances, plans))
            offset = 0
            start = []
            for each, weight in zip(plans, weights):
                self.check_copy(plan, each, offset)
                for state, part in each.start:
                    if weight:
                        part = part if isinstance(part, Quotient) else as_quotient(part)
                        amount = part * as_quotient(pair(Fraction(weight, sum(weights))))
                        start.append((f"s{offset + each.states.index(state) + 1}", quotient_text(amount)))
                offset += len(each.states)
            self.assertEqual(plan.states, names(offset))
            self.assertEqual(values(plan.start), start)

    def test_errors(self):
        mine = drawn_plan(random.Random(3), TABLE)
        foe = drawn_plan(random.Random(3), TABLE, "foe")
        far = drawn_plan(random.Random(3), OTHER)
        self.check_error(BadNumber, ("plans", 0), mixed, TABLE, [], None)
        self.check_error(BadNumber, ("plans", 0), mixed, TABLE, (), ())
        self.check_error(BadNumber, ("plans", 25), mixed, TABLE, [mine] * 25, [(1, 25)] * 25)
        for value in [None, 1, "11", {}, [], (1,), [(1, 2)] * 3, {0: 1, 1: 0}]:
            self.check_error(BadNumber, ("chances", value), mixed, OTHER, [mine, foe], value)
        for value in [None, "0", True, -1, (-1, 2), (1, 0), [1, 2], (1, -2), 1.0, Quotient((1,))]:
            self.check_error(BadNumber, ("chance", value), mixed, OTHER, [mine, foe], [5, value])
            self.check_error(BadNumber, ("chance", value), mixed, OTHER, [mine, foe], (value, -1))
        for value in [[1, 1], [0, 0], ((1, 2), (1, 3)), [(1, 2), (3, 4)]]:
            self.check_error(BadNumber, ("chances", value), mixed, OTHER, [mine, foe], value)
        self.check_error(Unlike, ("side",), mixed, OTHER, [mine, foe], [0, 1])
        self.check_error(Unlike, ("side",), mixed, TABLE, [mine, far, foe], [0, 1, 0])
        self.check_error(Unlike, ("world",), mixed, TABLE, [mine, far] * 12, [0, 1] * 1 + [0] * 22)
        self.check_error(Unlike, ("world",), mixed, OTHER, [mine], [1])
        many = [drawn_plan(random.Random(3), TABLE, states=5)] * 5
        self.check_error(TooMany, ("states", 25, 24), mixed, TABLE, many, [1, 0, 0, 0, 0])
        self.assertEqual(len(mixed(TABLE, [mine] * 12, [(1, 12)] * 12).states), 24)
        self.assertEqual(len(mixed(TABLE, [Plan(TABLE, "state s\nplay s * c:1")] * 24, [(1, 24)] * 24).start), 24)

    def test_large_chances(self):
        for many in (3995, 3999, 4000, 4001, 4005):
            tops = (1, 10 ** (many - 1) - 1)
            other = drawn_plan(random.Random(8), WORLD, states=1)
            start = Plan(WORLD, "state s t\nstart s:1/3 t:2/3\nplay * * d:1")
            small = [other, Plan(WORLD, "state s\nplay s * c:1")]
            chances = [(top, 10 ** (many - 1)) for top in tops]
            if many <= 4000:
                self.assertEqual(mixed(WORLD, small, chances).start, (("s1", chances[0]), ("s2", chances[1])))
            else:
                self.check_error(TooLarge, ("digits", many, 4000), mixed, WORLD, small, chances)
            # One third of the first chance has a bottom of one digit more now and then.
            bottom = 3 * 10 ** (many - 1)
            size = len(str_of(bottom))
            if size <= 4000:
                self.assertEqual(mixed(WORLD, [start, other], chances).start[0][1], (1, bottom))
            else:
                self.check_error(TooLarge, ("digits", size, 4000), mixed, WORLD, [start, other], chances)
        big = long_plan(4601)
        self.check_error(TooLarge, ("digits", 4601, 4000), mixed, WORLD, [big, small[1]], [0, 1])
        hidden = Plan(WORLD, big.text + "go * * * * t:1\n")
        self.check_built(mixed(WORLD, [hidden, small[1]], [0, 1]), WORLD, "mine")


class TrembledTest(BuiltCase):
    def test_drawn_plans(self):
        chance = random.Random(9)
        for _ in range(40):
            world = chance.choice([WORLD, TABLE, MESSY, ONE_WAY])
            side = chance.choice(["mine", "foe"])
            plan = drawn_plan(chance, world, side, chance.randint(1, 4))
            found = trembled(world, plan)
            self.check_built(found, world, side)
            self.assertEqual(len(found.states), len(plan.states))
            moves = world.mine if side == "mine" else world.foe
            places = dict(zip(plan.states, found.states))
            self.assertEqual(values(found.start), values(tuple((places[state], part) for state, part in plan.start)))
            part = Fraction(1, len(moves))
            for state, board in itertools.product(plan.states, world.boards):
                chances = {move: Fraction(*amount) for move, amount in plan.play(state, board)}
                for e in (Fraction(1, 3), Fraction(5, 7)):
                    expected = [(move, (1 - e) * chances.get(move, 0) + e * part) for move in moves]
                    played = [(move, quotient_at(amount, e)) for move, amount in found.play(places[state], board)]
                    self.assertEqual(played, expected)
                for move, signal in itertools.product(moves, all_signals(world)):
                    after = tuple((places[name], amount) for name, amount in plan.after(state, board, move, signal))
                    self.assertEqual(values(found.after(places[state], board, move, signal)), values(after))
            for e in (Fraction(1, 3), Fraction(5, 7)):
                settled = found.settled(pair(e))
                self.assertIs(settled.lettered, False)
                self.assertEqual(settled.play("s1", world.boards[0]), tuple((m, pair(quotient_at(q, e))) for m, q in found.play("s1", world.boards[0])))

    def test_many_states(self):
        states = [f"a{k}" for k in range(60)]
        lines = ["state " + " ".join(states), "play * * c:1"]
        lines += [f"go {one} * * * {other}:1" for one, other in zip(states, states[1:])]
        found = trembled(TABLE, Plan(TABLE, "\n".join(lines), "foe"))
        self.assertEqual((found.states, found.side), (names(60), "foe"))
        self.assertEqual(values(found.after("s59", "b", "d", "c.c")), [("s60", "1")])

    def test_errors(self):
        plain = Plan(TABLE, "state s\nplay s * c:1")
        letter = Plan(TABLE, "state s\nplay s * c:e d:1-e")
        hidden = Plan(TABLE, "state s\nplay s * c:e d:1-e\nplay s * c:1")
        self.check_error(Unlike, ("world",), trembled, OTHER, letter)
        self.check_error(Unlike, ("world",), trembled, OTHER, plain)
        self.check_error(HasLetter, (), trembled, TABLE, letter)
        self.check_error(HasLetter, (), trembled, TABLE, trembled(TABLE, plain))
        self.check_built(trembled(TABLE, hidden), TABLE, "mine")
        world = World("mine c d\nfoe c d\nboard b\npay * * 1 2\nsignal * * up:e down:1-e\n")
        self.check_built(trembled(world, Plan(world, "state s\nplay s * c:1")), world, "mine")
        lone = Plan(ONE_WAY, "state s\nplay s * c:1")
        self.assertEqual(trembled(ONE_WAY, lone).play("s1", "b"), (("c", (1, 1)),))
        even = trembled(TABLE, Plan(TABLE, "state s\nplay s * c:1/2 d:1/2"))
        self.assertEqual((even.lettered, even.play("s1", "b")), (False, (("c", (1, 2)), ("d", (1, 2)))))

    def test_large_chances(self):
        for many in (3998, 3999, 4000):
            below = 10 ** (many - 1) + 1
            plan = Plan(WORLD, f"state s\nplay s * c:1/{below} d:1-1/{below}")
            size = len(str_of((Fraction(1, 2) - Fraction(1, below)).denominator))
            if size <= 4000:
                self.assertEqual(len(trembled(WORLD, plan).play("s1", "one")), 2)
            else:
                self.check_error(TooLarge, ("digits", size, 4000), trembled, WORLD, plan)
        self.check_error(TooLarge, ("digits", 4601, 4000), trembled, WORLD, long_plan(4601))
        one, rest = long_sum(4601)
        size = len(str_of((Fraction(1, 2) - Fraction(1, 10 ** 2300 + 3) - Fraction(1, 10 ** 2300 + 7)).denominator))
        self.check_error(TooLarge, ("digits", size, 4000), trembled, WORLD, Plan(WORLD, f"state s\nplay s * c:{one} d:{rest}"))


def quotient_at(quotient, e):
    if isinstance(quotient, tuple):
        return Fraction(*quotient)
    return Fraction(*quotient.at(pair(e)))


def given_for(world, side, board, move):
    """The signals that a board can give for a move of a side."""
    found = []
    for mine, foe in itertools.product(world.mine, world.foe):
        if (mine if side == "mine" else foe) == move:
            found += [signal for signal, _ in world.signals(board, mine, foe)]
    return list(dict.fromkeys(found))


def used_states(plan):
    used = {state for state, _ in plan.start}
    while True:
        more = set(used)
        for state in used:
            for board in plan.world.boards:
                for move, _ in plan.play(state, board):
                    for signal in given_for(plan.world, plan.side, board, move):
                        more |= {name for name, _ in plan.after(state, board, move, signal)}
        if more == used:
            return [state for state in plan.states if state in used]
        used = more


def is_stable(plan, groups):
    """Whether a cut of the used states is a stable grouping."""
    group_of = {state: k for k, group in enumerate(groups) for state in group}
    for group in groups:
        found = set()
        for state in group:
            tells = []
            for board in plan.world.boards:
                tells.append(str(values(plan.play(state, board))))
                for move, _ in plan.play(state, board):
                    for signal in given_for(plan.world, plan.side, board, move):
                        sums = {}
                        for name, part in plan.after(state, board, move, signal):
                            part = part if isinstance(part, Quotient) else as_quotient(part)
                            sums[group_of[name]] = sums.get(group_of[name], Quotient(())) + part
                        tells.append(sorted((k, quotient_text(part)) for k, part in sums.items()))
            found.add(str(tells))
        if len(found) > 1:
            return False
    return True


def cuts_of(items):
    """All ways to cut a list into groups."""
    if not items:
        yield []
        return
    for rest in cuts_of(items[1:]):
        yield [[items[0]]] + rest
        for k in range(len(rest)):
            yield [[items[0]] + rest[k]] + rest[:k] + rest[k + 1:]


class LeastTest(BuiltCase):
    def check_least(self, plan):
        found = least(plan.world, plan)
        self.assertIsInstance(found, Least)
        used = used_states(plan)
        self.assertEqual(sorted(state for group in found.groups for state in group), sorted(used))
        self.assertIs(type(found.groups), tuple)
        places = [[plan.states.index(state) for state in group] for group in found.groups]
        self.assertEqual(places, [sorted(place) for place in places])
        self.assertEqual([place[0] for place in places], sorted(place[0] for place in places))
        self.assertTrue(is_stable(plan, found.groups))
        self.check_built(found.plan, plan.world, plan.side)
        self.assertEqual(found.plan.states, names(len(found.groups)))
        self.check_states(plan, found)
        return found

    def check_states(self, plan, found):
        """Each state of the least plan does what each state of its group does."""
        name_of = {state: f"s{k + 1}" for k, group in enumerate(found.groups) for state in group}
        moves = plan.world.mine if plan.side == "mine" else plan.world.foe
        self.assertEqual(values(found.plan.start), self.summed(plan.start, name_of, found.plan))
        for state in name_of:
            for board in plan.world.boards:
                plays = plan.play(state, board)
                self.assertEqual(values(found.plan.play(name_of[state], board)), values(plays))
                for move, signal in itertools.product(moves, all_signals(plan.world)):
                    expected = [(name_of[state], "1")]
                    if move in dict(plays) and signal in given_for(plan.world, plan.side, board, move):
                        expected = self.summed(plan.after(state, board, move, signal), name_of, found.plan)
                    self.assertEqual(values(found.plan.after(name_of[state], board, move, signal)), expected)

    def summed(self, pairs, name_of, plan):
        sums = {}
        for name, part in pairs:
            part = part if isinstance(part, Quotient) else as_quotient(part)
            sums[name_of[name]] = sums.get(name_of[name], Quotient(())) + part
        return [(name, quotient_text(sums[name])) for name in plan.states if name in sums]

    def test_against_all_groupings(self):
        chance = random.Random(11)
        sizes = set()
        for count in range(60):
            world = chance.choice([WORLD, TABLE, MESSY, ONE_WAY])
            letter = count % 3 == 0
            plan = drawn_plan(chance, world, chance.choice(["mine", "foe"]), chance.randint(1, 6), letter, most=chance.choice([1, 2]))
            found = self.check_least(plan)
            used = used_states(plan)
            if len(used) <= 5:
                fewest = min(len(cut) for cut in cuts_of(used) if is_stable(plan, cut))
                self.assertEqual(len(found.groups), fewest)
                sizes.add((len(used), fewest))
        self.assertTrue(any(fewest < used for used, fewest in sizes))

    def copies(self, chance, plan, many):
        """A plan in which each state has many copies, in any order, and the
        chances to come to a state are cut over its copies."""
        names = [f"{state}x{k}" for state in plan.states for k in range(many)]
        chance.shuffle(names)
        moves = plan.world.mine if plan.side == "mine" else plan.world.foe

        def cut(pairs):
            words = []
            for state, part in pairs:
                weights = [chance.randint(1, 5) for _ in range(many)]
                for k, weight in enumerate(weights):
                    part = part if isinstance(part, Quotient) else as_quotient(part)
                    words.append(f"{state}x{k}:" + quotient_text(part * as_quotient(pair(Fraction(weight, sum(weights))))))
            chance.shuffle(words)
            return " ".join(words)

        lines = ["state " + " ".join(names), "start " + cut(plan.start)]
        for name in names:
            state = name.split("x")[0]
            for board in plan.world.boards:
                lines.append(f"play {name} {board} " + " ".join(":".join(item) for item in values(plan.play(state, board))))
                for move, signal in itertools.product(moves, all_signals(plan.world)):
                    lines.append(f"go {name} {board} {move} {signal} " + cut(plan.after(state, board, move, signal)))
        return Plan(plan.world, "\n".join(lines), plan.side)

    def test_copies(self):
        chance = random.Random(12)
        for count in range(12):
            world = [TABLE, MESSY, WORLD][count % 3]
            base = least(world, drawn_plan(chance, world, chance.choice(["mine", "foe"]), 3, count % 2 == 0)).plan
            plan = self.copies(chance, base, chance.randint(2, 3))
            found = self.check_least(plan)
            self.assertEqual(len(found.groups), len(base.states))
            for group in found.groups:
                self.assertEqual(len({state.split("x")[0] for state in group}), 1)
            again = least(world, found.plan)
            self.assertEqual(tables(again.plan), tables(found.plan))
            self.assertEqual(again.groups, tuple((state,) for state in found.plan.states))

    def test_one_chance(self):
        text = "state s t u\nstart s:1/2 t:1/2\nplay s * c:1/3 d:2/3\nplay t * c:1/3 d:2/3\nplay u * d:1\n"
        self.assertEqual(least(TABLE, Plan(TABLE, text)).groups, (("s", "t"),))
        for line in ("play t * c:1/2 d:1/2\n", "play t * c:1\n", "go t * d *.c u:1/9 s:8/9\n"):
            groups = self.check_least(Plan(TABLE, text + line)).groups
            self.assertEqual(groups[:2], (("s",), ("t",)))
        # Shares among copies do not matter, nor what is said of moves that are not played.
        self.assertEqual(self.check_least(Plan(TABLE, text + "go s * * * s:1/5 t:4/5\ngo t * * * s:1/7 t:6/7\n")).groups, (("s", "t"),))
        self.assertEqual(self.check_least(Plan(TABLE, text + "play * * c:1\ngo t * d * u:1\n")).groups, (("s", "t"),))

    def test_what_is_used(self):
        # The signal up can not be given for c on board one, and never can not be given at all.
        text = "state s t u\nplay * * c:1\n"
        groups = least(WORLD, Plan(WORLD, text + "go s * * never t:1\ngo s * * c.c u:1")).groups
        self.assertEqual(groups, (("s",),))
        groups = least(WORLD, Plan(WORLD, text + "go s * d * t:1")).groups
        self.assertEqual(groups, (("s",),))
        one = Plan(WORLD, text + "go s one c up t:1\nplay t * d:1")
        self.assertEqual(least(WORLD, one).groups, (("s",), ("t",)))
        # Board two counts, though no play comes to it.
        two = Plan(WORLD, text + "go s two c up u:1\nplay u two d:1")
        self.assertEqual(least(WORLD, two).groups, (("s",), ("u",)))
        self.assertEqual(least(WORLD, Plan(WORLD, text + "go s two c down u:1\nplay u two d:1")).groups, (("s",),))

    def test_orders(self):
        text = "state a b c d\nstart d:1/4 b:1/4 c:1/4 a:1/4\nplay * * c:1\nplay a * d:1\nplay d * d:1"
        found = self.check_least(Plan(TABLE, text, "foe"))
        self.assertEqual(found.groups, (("a", "d"), ("b", "c")))
        self.assertEqual(found.plan.start, (("s1", (1, 2)), ("s2", (1, 2))))
        late = Plan(TABLE, text.replace("start d:1/4 b:1/4 c:1/4 a:1/4", "start c:1") + "\ngo c * * * b:1/2 d:1/2\ngo b * * * d:1\ngo d * * * b:1/3 c:2/3")
        self.assertEqual(self.check_least(late).groups, (("b",), ("c",), ("d",)))

    def test_errors(self):
        plan = drawn_plan(random.Random(3), TABLE)
        self.check_error(Unlike, ("world",), least, OTHER, plan)
        again = World(TABLE.text)
        self.assertIs(least(again, plan).plan.world, again)
        for many in (3991, 3999, 4000, 4001, 4011, 4601):
            below, other = 10 ** (many // 2) + 3, 10 ** (many - many // 2 - 1) + 7
            size = len(str_of((Fraction(1, below) + Fraction(1, other)).denominator))
            words = f"s:1/{below} t:1/{other} u:1-1/{below}-1/{other}"
            for line in (f"start {words}\n", f"go * * * * {words}\n"):
                big = Plan(WORLD, f"state s t u\nplay * * c:1\nplay u * d:1\n{line}start u:1\n".replace("start u:1\n", "" if "start" in line else "start u:1\n"))
                if size <= 4000:
                    self.assertEqual(len(least(WORLD, big).groups), 2)
                else:
                    self.check_error(TooLarge, ("digits", size, 4000), least, WORLD, big)
                    self.check_error(Unlike, ("world",), least, TABLE, big)


if __name__ == "__main__":
    import unittest

    unittest.main()
