"""Plans of one side, with finitely many states."""

from everyfoe.errors import BadName, Untold
from everyfoe.plan_texts import PlanText
from everyfoe.quotients import Quotient
from everyfoe.texts import is_lettered, settled_text, told
from everyfoe.worlds import all_signals

SIDES = ("mine", "foe")


class Plan:
    """A plan of one side of a world, told by a text."""

    def __init__(self, world, text, side="mine"):
        if side not in SIDES:
            raise BadName(side)
        moves = world.mine if side == "mine" else world.foe
        found = PlanText(world, text, moves)
        self.world = world
        self.text = text
        self.side = side
        self.states = found.states
        self._moves = moves
        self._signals = {signal: True for signal in all_signals(world)}
        self._lines = lines_of_states(found)
        check_plays(world, found)
        start = found.start
        if start is None:
            start = ((self.states[0], Quotient((1,))),)
        # Which lines count is asked before it is known how chances are told.
        self._goes = found.goes
        self.lettered = self.has_letter(start, found.plays)
        self.start = told(start, self.lettered)
        self._plays = {at: told(found.plays[at], self.lettered) for at in found.plays}
        self._goes = [(*line[:4], told(line[4], self.lettered), line[5]) for line in found.goes]

    def has_letter(self, start, plays):
        """Whether some chance that counts is not constant."""
        if is_lettered(start) or any([is_lettered(plays[at]) for at in plays]):
            return True
        lettered = [is_lettered(line[4]) for line in self._goes]
        for state in self.states:
            if any([lettered[k] for k in self._lines[state]]) and self.comes_to(state, lettered):
                return True
        return False

    def comes_to(self, state, lettered):
        """Whether one of the lines that are lettered counts for the state."""
        for board in self.world.boards:
            for move in self._moves:
                for signal in self._signals:
                    k = self.line_for(state, board, move, signal)
                    if k is not None and lettered[k]:
                        return True
        return False

    def line_for(self, state, board, move, signal):
        """The index of the line go that counts, or None."""
        for k in reversed(self._lines[state]):
            boards, moves, signals = self._goes[k][1:4]
            if board in boards and move in moves and signal in signals:
                return k
        return None

    def check_place(self, state, board):
        """Raise BadName for the first one that is not what it should be."""
        if not isinstance(state, str) or state not in self._lines:
            raise BadName(state)
        if board not in self.world.boards:
            raise BadName(board)

    def play(self, state, board):
        """The distribution of the move."""
        self.check_place(state, board)
        return self._plays[(state, board)]

    def after(self, state, board, move, signal):
        """The distribution of the next state."""
        self.check_place(state, board)
        if move not in self._moves:
            raise BadName(move)
        if not isinstance(signal, str) or signal not in self._signals:
            raise BadName(signal)
        k = self.line_for(state, board, move, signal)
        if k is None:
            return told(((state, Quotient((1,))),), self.lettered)
        return self._goes[k][4]

    def lines_of(self, state):
        """The lines go that count for the state somewhere, in their order:
        pairs of the words for board, move and signal, and the distribution."""
        counting = {}
        for board in self.world.boards:
            for move in self._moves:
                for signal in self._signals:
                    counting[self.line_for(state, board, move, signal)] = True
        return [(self._goes[k][5], self._goes[k][4]) for k in self._lines[state] if k in counting]

    def settled(self, ratio):
        """The plan with e = ratio."""
        world = self.world.settled(ratio)
        text = settled_text(self.text, {"start": 1, "play": 3, "go": 5}, ratio)
        return Plan(world, text, self.side)


def lines_of_states(found):
    """For each state the indices of the lines go that fit it."""
    lines = {state: [] for state in found.states}
    for k in range(len(found.goes)):
        for state in found.goes[k][0]:
            lines[state].append(k)
    return lines


def check_plays(world, found):
    """Raise Untold for the first state and board without a line play."""
    for state in found.states:
        for board in world.boards:
            if (state, board) not in found.plays:
                raise Untold(board, (state,))
