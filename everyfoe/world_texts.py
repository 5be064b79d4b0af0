"""Texts of worlds, read line by line."""

from everyfoe.errors import BadText
from everyfoe.texts import (
    check_head,
    is_name,
    ratio_word,
    read_conditions,
    read_distribution,
    read_names,
    starred,
    words_of,
)

MOST_MOVES = 4
MOST_BOARDS = 4


class WorldText:
    """What the text of a world tells.

    The three tables tell for a board and a pair of moves what the last line
    that fits tells; names are the names of all lines signal.
    """

    def __init__(self, text):
        rows = words_of(text)
        self.mine = ()
        self.foe = ()
        self.boards = []
        self.goals = goals_of(rows)
        self.pay_table = {}
        self.signal_table = {}
        self.going_table = {}
        self.names = {}
        for k in range(len(rows)):
            self.read_line(rows[k], k + 1)
        if len(rows) < 3:
            raise BadText(len(rows) + 1, 1)

    def read_line(self, words, line):
        if line == 1:
            check_head(words, line, ("mine",))
            self.mine = read_names(words, line, MOST_MOVES)
        elif line == 2:
            check_head(words, line, ("foe",))
            self.foe = read_names(words, line, MOST_MOVES)
        else:
            check_head(words, line, ("board", "pay", "signal", "go") if line > 3 else ("board",))
            if words[0] == "board":
                self.read_board(words, line)
            else:
                self.read_board_line(words, line)

    def read_board(self, words, line):
        if len(self.boards) == MOST_BOARDS:
            raise BadText(line, 1)
        if len(words) < 2 or not is_name(words[1]) or words[1] in self.boards:
            raise BadText(line, 2)
        if len(words) > 2:
            raise BadText(line, 3)
        self.boards.append(words[1])

    def read_board_line(self, words, line):
        """Read a line pay, signal or go of the last board."""
        mines, foes = read_conditions(words, line, [starred(self.mine), starred(self.foe)])
        if words[0] == "pay":
            self.put(self.pay_table, mines, foes, read_pays(words, line))
        elif words[0] == "signal":
            pairs = read_distribution(words, line, 3, None)
            for name, _ in pairs:
                self.names[name] = True
            self.put(self.signal_table, mines, foes, pairs)
        else:
            self.put(self.going_table, mines, foes, read_distribution(words, line, 3, self.goals))

    def put(self, table, mines, foes, worth):
        """What is told later for the same board and moves counts."""
        for mine in mines:
            for foe in foes:
                table[(self.boards[-1], mine, foe)] = worth


def goals_of(rows):
    """The names of all boards, wherever they are told."""
    names = [words[1] for words in rows if words[0] == "board" and len(words) > 1]
    return {name: True for name in names if is_name(name)}


def read_pays(words, line):
    """The two ratios of a line pay."""
    pays = []
    for k in (3, 4):
        ratio = ratio_word(words[k]) if k < len(words) else None
        if ratio is None:
            raise BadText(line, k + 1)
        pays.append(ratio)
    if len(words) > 5:
        raise BadText(line, 6)
    return tuple(pays)
