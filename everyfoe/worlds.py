"""Worlds: boards, moves, pays, signals and what follows."""

from everyfoe.errors import BadName, BadNumber, TooMany, Untold
from everyfoe.exact import is_ratio
from everyfoe.quotients import Quotient
from everyfoe.ratios import ratio_text
from everyfoe.texts import check_inner, in_order, is_lettered, is_name, settled_text, told
from everyfoe.world_texts import MOST_MOVES, WorldText


class World:
    """A world, told by a text.

    signal_names are the names in all lines signal of the text.
    """

    def __init__(self, text):
        found = WorldText(text)
        self.text = text
        self.mine = found.mine
        self.foe = found.foe
        self.boards = tuple(found.boards)
        self.signal_names = tuple(found.names)
        self._pays = found.pay_table
        places = self.places()
        for board, mine, foe in places:
            if (board, mine, foe) not in found.pay_table:
                raise Untold(board, (mine, foe))
        signals = {at: signals_at(found, at) for at in places}
        going = {at: going_at(found, at) for at in places}
        lettered = any([is_lettered(signals[at]) or is_lettered(going[at]) for at in places])
        self._signals = {at: told(signals[at], lettered) for at in places}
        self._going = {at: told(going[at], lettered) for at in places}
        self.lettered = lettered
        self.plain = len(self.boards) == 1 and not self.signal_names and not lettered

    def places(self):
        """The triples of a board and a pair of moves, in order."""
        return [(board, mine, foe) for board in self.boards for mine in self.mine for foe in self.foe]

    def check_place(self, board, mine, foe):
        """Raise BadName for the first one that is not what it should be."""
        if board not in self.boards:
            raise BadName(board)
        if mine not in self.mine:
            raise BadName(mine)
        if foe not in self.foe:
            raise BadName(foe)

    def pay(self, board, mine, foe):
        """The pair of both pays."""
        self.check_place(board, mine, foe)
        return self._pays[(board, mine, foe)]

    def signals(self, board, mine, foe):
        """The distribution of the signal."""
        self.check_place(board, mine, foe)
        return self._signals[(board, mine, foe)]

    def going(self, board, mine, foe):
        """The distribution of the next board."""
        self.check_place(board, mine, foe)
        return self._going[(board, mine, foe)]

    def settled(self, ratio):
        """The world with e = ratio."""
        check_inner(ratio)
        return World(settled_text(self.text, {"signal": 3, "go": 3}, ratio))


def signals_at(found, at):
    """The distribution of the signal for a board and a pair of moves: M.F for
    sure if no line tells it."""
    _, mine, foe = at
    return found.signal_table.get(at, [(f"{mine}.{foe}", Quotient((1,)))])


def going_at(found, at):
    """The distribution of the next board in the order of boards: the same
    board for sure if no line tells it."""
    return in_order(found.going_table.get(at, [(at[0], Quotient((1,)))]), found.boards)


def pair_signals(mine, foe):
    """The signals M.F of these moves."""
    return tuple([f"{one}.{other}" for one in mine for other in foe])


def all_signals(world):
    """The signals of a world: the names, then the M.F."""
    return world.signal_names + pair_signals(world.mine, world.foe)


def signal_words(world):
    """A dict of the words SIGNAL to the signals that they fit."""
    table = {name: (name,) for name in world.signal_names}
    for mine in (*world.mine, "*"):
        for foe in (*world.foe, "*"):
            mines = world.mine if mine == "*" else (mine,)
            foes = world.foe if foe == "*" else (foe,)
            table[f"{mine}.{foe}"] = pair_signals(mines, foes)
    table["*"] = all_signals(world)
    return table


def world_of(mine, foe, pays):
    """The world of a table of pays, with one board."""
    check_moves(mine)
    check_moves(foe)
    check_table(mine, foe, pays)
    entries = [value for row in pays for pair in row for value in pair]
    for value in entries:
        if not is_ratio(value):
            raise BadNumber("pay", value)
    words = [ratio_text(value) for value in entries]
    lines = ["mine " + " ".join(mine), "foe " + " ".join(foe), "board b"]
    for one in mine:
        for other in foe:
            at = 2 * (len(lines) - 3)
            lines.append(f"pay {one} {other} {words[at]} {words[at + 1]}")
    return World("\n".join(lines) + "\n")


def check_moves(names):
    """Raise an error unless these are one to four names, no two equal."""
    if not isinstance(names, (list, tuple)) or len(names) == 0:
        raise BadName(names)
    for k in range(len(names)):
        if not is_name(names[k]) or names[k] in names[:k]:
            raise BadName(names[k])
    if len(names) > MOST_MOVES:
        raise TooMany("moves", len(names), MOST_MOVES)


def has_length(value, many):
    """Whether the value is a list or tuple of so many items."""
    return isinstance(value, (list, tuple)) and len(value) == many


def check_table(mine, foe, pays):
    """Raise BadNumber unless the lists in pays have the lengths of a table."""
    if not has_length(pays, len(mine)):
        raise BadNumber("pays", pays)
    for row in pays:
        if not has_length(row, len(foe)):
            raise BadNumber("pays", pays)
        for pair in row:
            if not has_length(pair, 2):
                raise BadNumber("pays", pays)
