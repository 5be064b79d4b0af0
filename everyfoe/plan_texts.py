"""Texts of plans, read line by line."""

from everyfoe.errors import BadText
from everyfoe.texts import (
    check_head,
    in_order,
    read_conditions,
    read_distribution,
    read_names,
    starred,
    words_of,
)
from everyfoe.worlds import signal_words

MOST_STATES = 999


class PlanText:
    """What the text of a plan tells. All distributions are in the order of
    states or moves.

    start is the distribution of the line start, or None. plays tells for a
    state and a board the distribution of the last line that fits. goes has
    the lines go in order, each as the tuples of the states, boards, moves and
    signals that it fits, its distribution, and its words for board, move and
    signal.
    """

    def __init__(self, world, text, moves):
        rows = words_of(text)
        if not rows:
            raise BadText(1, 1)
        check_head(rows[0], 1, ("state",))
        self.states = read_names(rows[0], 1, MOST_STATES)
        self.moves = moves
        self.start = None
        self.plays = {}
        self.goes = []
        places = [starred(self.states), starred(world.boards)]
        self.tables = {"play": places, "go": places + [starred(moves), signal_words(world)]}
        self.states_told = {state: True for state in self.states}
        self.moves_told = {move: True for move in moves}
        for k in range(1, len(rows)):
            self.read_line(rows[k], k + 1)

    def read_line(self, words, line):
        check_head(words, line, ("start", "play", "go"))
        if words[0] == "start":
            self.read_start(words, line)
        elif words[0] == "play":
            self.read_play(words, line)
        else:
            self.read_go(words, line)

    def read_start(self, words, line):
        if self.start is not None:
            raise BadText(line, 1)
        self.start = in_order(read_distribution(words, line, 1, self.states_told), self.states)

    def read_play(self, words, line):
        states, boards = read_conditions(words, line, self.tables["play"])
        pairs = in_order(read_distribution(words, line, 3, self.moves_told), self.moves)
        for state in states:
            for board in boards:
                self.plays[(state, board)] = pairs

    def read_go(self, words, line):
        fits = read_conditions(words, line, self.tables["go"])
        pairs = in_order(read_distribution(words, line, 5, self.states_told), self.states)
        self.goes.append((*fits, pairs, tuple(words[2:5])))
