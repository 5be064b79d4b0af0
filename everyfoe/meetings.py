"""Meetings: plan against plan."""

from everyfoe.amounts import lifted, nothing, put, times, total, whole
from everyfoe.chains import chances_after, class_chances, closed_classes_of, means_from_start
from everyfoe.errors import BadNumber, HasLetter, TooLarge, Unlike
from everyfoe.exact import is_integer
from everyfoe.patience import patience_worths, recurrence_of

MOST_ROUND = 200


class Meeting:
    """A plan of mine against a plan of the foe."""

    def __init__(self, plan, other, wide=False):
        if plan.side != "mine" or other.side != "foe":
            raise Unlike("side")
        if plan.world.text != other.world.text:
            raise Unlike("world")
        self.plan = plan
        self.other = other
        self.world = plan.world
        self.lettered = plan.world.lettered or plan.lettered or other.lettered
        first = self.first_standings()
        nexts = self.nexts_of(list(first), wide)
        self.standings = tuple([standing for standing in self.places() if standing in nexts])
        none = nothing(self.lettered)
        self.start = tuple([first.get(standing, none) for standing in self.standings])
        index = {self.standings[k]: k for k in range(len(self.standings))}
        self._going = []
        for standing in self.standings:
            table = {index[after]: chance for after, chance in self.outcomes(standing).items()}
            self._going.append(tuple([(k, table[k]) for k in sorted(table)]))
        self._pays = [self.expected(standing) for standing in self.standings]

    def lift(self, number):
        """The number as all numbers of the meeting are told."""
        return lifted(number, self.lettered)

    def first_standings(self):
        """The joint standings that can be the first one, with their chances."""
        board = self.world.boards[0]
        found = {}
        for mine, chance in self.plan.start:
            for foe, part in self.other.start:
                found[(board, mine, foe)] = times(self.lift(chance), self.lift(part))
        return found

    def places(self):
        """All boards and states together, in their order."""
        pairs = [(mine, foe) for mine in self.plan.states for foe in self.other.states]
        return [(board, *pair) for board in self.world.boards for pair in pairs]

    def nexts_of(self, waiting, wide):
        """A dict of the joint standings that occur, from those that wait on;
        in a wide meeting the sides may make any moves."""
        found = {}
        while waiting:
            standing = waiting.pop()
            if standing not in found:
                found[standing] = True
                moves = self.any_moves() if wide else self.moves_at(standing)
                for mine, foe, _ in moves:
                    waiting = waiting + list(self.drawn(standing, mine, foe))
        return found

    def any_moves(self):
        """All pairs of moves, as if drawn for sure."""
        return [(mine, foe, whole(self.lettered)) for mine in self.world.mine for foe in self.world.foe]

    def moves_at(self, standing):
        """The pairs of moves that both plans can make, with their chances."""
        board, own, against = standing
        found = []
        for mine, chance in self.plan.play(own, board):
            for foe, part in self.other.play(against, board):
                found.append((mine, foe, times(self.lift(chance), self.lift(part))))
        return found

    def drawn(self, standing, mine, foe):
        """The chances of the next joint standings after these moves."""
        board, own, against = standing
        pairs = {}
        for signal, chance in self.world.signals(board, mine, foe):
            for name, part in self.plan.after(own, board, mine, signal):
                share = times(self.lift(chance), self.lift(part))
                for other, rest in self.other.after(against, board, foe, signal):
                    put(pairs, (name, other), times(share, self.lift(rest)))
        found = {}
        for goal, chance in self.world.going(board, mine, foe):
            for pair, part in pairs.items():
                after = (goal, *pair)
                found[after] = times(self.lift(chance), part)
        return found

    def outcomes(self, standing):
        """The chances of the next joint standings."""
        found = {}
        for mine, foe, chance in self.moves_at(standing):
            for after, part in self.drawn(standing, mine, foe).items():
                put(found, after, times(chance, part))
        return found

    def expected(self, standing):
        """The pair of the expected pays of a round at a joint standing."""
        found = []
        for side in (0, 1):
            parts = []
            for mine, foe, chance in self.moves_at(standing):
                parts.append(times(chance, self.lift(self.world.pay(standing[0], mine, foe)[side])))
            found.append(total(parts, self.lettered))
        return tuple(found)

    def check_standing(self, k):
        """Raise BadNumber unless this is the index of a joint standing."""
        if not is_integer(k) or k < 0 or k >= len(self.standings):
            raise BadNumber("standing", k)

    def check_plain(self):
        """Raise HasLetter if the meeting is lettered."""
        if self.lettered:
            raise HasLetter()

    def going(self, k):
        """The next joint standings, as pairs of an index and a chance."""
        self.check_standing(k)
        return self._going[k]

    def pay(self, k):
        """The pair of the expected pays of a round at a joint standing."""
        self.check_standing(k)
        return self._pays[k]

    def chances_at(self, n):
        """The chances of the joint standings at the beginning of round n."""
        self.check_plain()
        if not is_integer(n) or n < 0:
            raise BadNumber("round", n)
        if n > MOST_ROUND:
            raise TooLarge("round", n, MOST_ROUND)
        return chances_after(self.start, self._going, n)

    def pays_at(self, n):
        """The pair of the expected pays of round n."""
        chances = self.chances_at(n)
        sides = [[times(chance, pay[side]) for chance, pay in zip(chances, self._pays)] for side in (0, 1)]
        return tuple([total(parts, False) for parts in sides])

    def closed_classes(self):
        """The closed classes with their chances."""
        classes = closed_classes_of(self._going)
        chances = class_chances(self.start, self._going, classes, self.lettered)
        return tuple([(tuple(members), chance) for members, chance in zip(classes, chances)])

    def means(self):
        """The pair of the means."""
        return means_from_start(self.start, self._going, self._pays, self.lettered)

    def patience(self):
        """The pair of the patience worths from the start."""
        self.check_plain()
        return patience_worths(self.start, self._going, self._pays)[-1]

    def patience_each(self):
        """The pairs of the patience worths from all joint standings."""
        self.check_plain()
        return tuple(patience_worths(self.start, self._going, self._pays)[:-1])

    def recurrence(self):
        """The shortest row that all expected pays of rounds in turn obey."""
        return recurrence_of(self.patience())
