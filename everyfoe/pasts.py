"""Pasts: what a plan that looks back has seen last."""

from everyfoe.errors import BadText, Untold
from everyfoe.texts import (
    check_head,
    in_order,
    read_distribution,
    starred,
    words_of,
)
from everyfoe.worlds import signal_words


def given_signals(world):
    """The signals that can be given, each once, in the order of boards, moves
    and the world's distributions."""
    found = {}
    for board, mine, foe in world.places():
        for signal, _ in world.signals(board, mine, foe):
            found[signal] = True
    return list(found)


def many_pasts(signals, depth):
    """How many pasts there are."""
    many = 1
    power = 1
    for _ in range(depth):
        power = power * signals
        many = many + power
    return many


def all_pasts(signals, depth):
    """All pasts in order: the shorter ones first."""
    found = [()]
    longest = [()]
    for _ in range(depth):
        longest = [(*past, signal) for past in longest for signal in signals]
        found = found + longest
    return found


class PastText:
    """The lines play of a plan that looks back: plays tells for the index of a
    past and a board the distribution of the last line that fits."""

    def __init__(self, world, depth, text, moves, pasts):
        self.depth = depth
        self.moves = moves
        self.pasts = pasts
        self.words = signal_words(world)
        self.boards = starred(world.boards)
        self.told = {move: True for move in moves}
        self.plays = {}
        rows = words_of(text)
        for k in range(len(rows)):
            self.read_line(rows[k], k + 1)
        for k in range(len(pasts)):
            for board in world.boards:
                if (k, board) not in self.plays:
                    raise Untold(board, pasts[k])

    def read_line(self, words, line):
        check_head(words, line, ("play",))
        if len(words) < 2 or not self.is_past_word(words[1]):
            raise BadText(line, 2)
        if len(words) < 3 or words[2] not in self.boards:
            raise BadText(line, 3)
        pairs = in_order(read_distribution(words, line, 3, self.told), self.moves)
        for k in range(len(self.pasts)):
            if self.fits(words[1], self.pasts[k]):
                for board in self.boards[words[2]]:
                    self.plays[(k, board)] = pairs

    def is_past_word(self, word):
        """Whether the word is a PAST."""
        if word in ("*", "-"):
            return True
        parts = word.split(",")
        return len(parts) <= self.depth and all([part in self.words for part in parts])

    def fits(self, word, past):
        """Whether a PAST fits a past."""
        if word in ("*", "-"):
            return word == "*" or len(past) == 0
        parts = word.split(",")
        if len(parts) > len(past):
            return False
        last = past[len(past) - len(parts):]
        return all([signal in self.words[part] for part, signal in zip(parts, last)])
