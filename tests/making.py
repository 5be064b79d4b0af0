"""Worlds, plans and rulebooks that are drawn for tests."""

from everyfoe.plans import Plan
from everyfoe.rulebooks import Rulebook
from everyfoe.worlds import World, world_of

MINE = "cdxy"
FOE = "cdz"
NAMES = ("up", "left", "right")
LETTERED = ["e", "1-e", "1/2*e", "1-1/2*e", "e^2", "1-e^2", "1/2+1/2*e", "1/2-1/2*e"]


def drawn_distribution(chance, names, most=3, letter=False):
    """Words NAME:CHANCE for some of the names."""
    names = chance.sample(list(names), chance.randint(1, min(most, len(names))))
    if len(names) == 1:
        return f"{names[0]}:1"
    if letter and chance.random() < 0.6:
        at = 2 * chance.randrange(len(LETTERED) // 2)
        return f"{names[0]}:{LETTERED[at]} {names[1]}:{LETTERED[at + 1]}"
    parts = [chance.randint(1, 4) for _ in names]
    return " ".join(f"{name}:{part}/{sum(parts)}" for name, part in zip(names, parts))


def drawn_world(chance, mine=2, foe=2, boards=1, signals=True, letter=False, pays=3):
    """A world with so many moves and boards."""
    names = [f"b{k}" for k in range(boards)]
    lines = ["mine " + " ".join(MINE[:mine]), "foe " + " ".join(FOE[:foe])]
    for name in names:
        lines.append(f"board {name}")
        for one in MINE[:mine]:
            for other in FOE[:foe]:
                lines.append(f"pay {one} {other} {chance.randint(-pays, pays)} {chance.randint(-pays, pays)}/{chance.randint(1, 3)}")
                if signals and chance.random() < 0.5:
                    lines.append(f"signal {one} {other} {drawn_distribution(chance, NAMES, letter=letter)}")
                if boards > 1:
                    lines.append(f"go {one} {other} {drawn_distribution(chance, names, letter=letter)}")
    return World("\n".join(lines) + "\n")


def signal_word(chance, world):
    words = ["*", *world.signal_names]
    words += [f"{one}.{other}" for one in (*world.mine, "*") for other in (*world.foe, "*")]
    return chance.choice(words)


def drawn_plan(chance, world, side="mine", states=2, letter=False, most=2, prefix="q"):
    """A plan of a world with so many states."""
    names = [f"{prefix}{k}" for k in range(states)]
    moves = world.mine if side == "mine" else world.foe
    lines = ["state " + " ".join(names)]
    if chance.random() < 0.5:
        lines.append("start " + drawn_distribution(chance, names, most, letter))
    for name in names:
        for board in world.boards:
            lines.append(f"play {name} {board} " + drawn_distribution(chance, moves, most, letter))
            for _ in range(chance.randint(0, 3)):
                move = chance.choice((*moves, "*"))
                where = chance.choice((board, "*"))
                lines.append(f"go {name} {where} {move} {signal_word(chance, world)} " + drawn_distribution(chance, names, most, letter))
    return Plan(world, "\n".join(lines) + "\n", side)


def drawn_rulebook(chance, world, side="foe", states=2, bars=2):
    """A rulebook of a world that never bars the first move."""
    names = [f"r{k}" for k in range(states)]
    moves = world.mine if side == "mine" else world.foe
    lines = ["state " + " ".join(names)]
    for _ in range(bars):
        if len(moves) > 1:
            lines.append(f"bar {chance.choice((*names, '*'))} {chance.choice((*world.boards, '*'))} {chance.choice(moves[1:])}")
    for name in names:
        for _ in range(3):
            mine = chance.choice((*world.mine, "*"))
            foe = chance.choice((*world.foe, "*"))
            goal = chance.choice(names)
            lines.append(f"go {name} {chance.choice((*world.boards, '*'))} {mine} {foe} {signal_word(chance, world)} {goal}")
    return Rulebook(world, "\n".join(lines) + "\n", side)


def drawn_ratio(chance, above=1, below=0):
    """A ratio with so many digits above and below the line."""
    return (chance.randint(-(10**above), 10**above), chance.randint(1, 10**below))


def drawn_table(chance, mine, foe, above=1, below=0):
    """A plain world with pays of so many digits."""
    pays = [[(drawn_ratio(chance, above, below), drawn_ratio(chance, above, below)) for _ in range(foe)] for _ in range(mine)]
    return world_of(list(MINE[:mine]), ["c", "d", "z", "w"][:foe], pays)
