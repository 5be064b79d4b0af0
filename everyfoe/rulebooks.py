"""Rulebooks: which moves of one side are barred."""

from everyfoe.errors import BadName, BadText
from everyfoe.plans import SIDES
from everyfoe.texts import check_head, read_conditions, read_names, starred, words_of
from everyfoe.worlds import signal_words

MOST_RULE_STATES = 24


class Rulebook:
    """A rulebook of one side of a world, told by a text."""

    def __init__(self, world, text, side="foe"):
        if side not in SIDES:
            raise BadName(side)
        rows = words_of(text)
        if not rows:
            raise BadText(1, 1)
        check_head(rows[0], 1, ("state",))
        self.world = world
        self.text = text
        self.side = side
        self.states = read_names(rows[0], 1, MOST_RULE_STATES)
        self._moves = world.mine if side == "mine" else world.foe
        self._signals = signal_words(world)
        self._bars = []
        self._goes = []
        for k in range(1, len(rows)):
            self.read_line(rows[k], k + 1)

    def read_line(self, words, line):
        check_head(words, line, ("bar", "go"))
        tables = [starred(self.states), starred(self.world.boards)]
        if words[0] == "bar":
            tables.append(starred(self._moves))
            self._bars.append(read_conditions(words, line, tables))
        else:
            tables = tables + [starred(self.world.mine), starred(self.world.foe), self._signals]
            tables.append({state: state for state in self.states})
            self._goes.append(read_conditions(words, line, tables))
        if len(words) > len(tables) + 1:
            raise BadText(line, len(tables) + 2)

    def check_place(self, state, board):
        """Raise BadName for the first one that is not what it should be."""
        if state not in self.states:
            raise BadName(state)
        if board not in self.world.boards:
            raise BadName(board)

    def allowed(self, state, board):
        """The moves that are not barred, in their order."""
        self.check_place(state, board)
        barred = [moves for states, boards, moves in self._bars if state in states and board in boards]
        return tuple([move for move in self._moves if not any([move in moves for moves in barred])])

    def after(self, state, board, mine, foe, signal):
        """The next state."""
        self.check_place(state, board)
        if mine not in self.world.mine:
            raise BadName(mine)
        if foe not in self.world.foe:
            raise BadName(foe)
        if signal not in self._signals["*"]:
            raise BadName(signal)
        told = (state, board, mine, foe, signal)
        for line in reversed(self._goes):
            if all([word in fit for word, fit in zip(told, line)]):
                return line[5]
        return state
