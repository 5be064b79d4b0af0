"""Courses: a plan against its free side."""

from everyfoe.amounts import added, lifted, nothing, put, times
from everyfoe.errors import AllBarred, BadName, BadNumber, Unlike
from everyfoe.exact import is_integer
from everyfoe.plans import SIDES
from everyfoe.rulebooks import Rulebook


class Course:
    """What a plan and its free side, perhaps with a rulebook, come to."""

    def __init__(self, plan, rulebook=None):
        side = SIDES[1 - SIDES.index(plan.side)]
        if rulebook is not None and rulebook.side != side:
            raise Unlike("side")
        if rulebook is not None and rulebook.world.text != plan.world.text:
            raise Unlike("world")
        self.plan = plan
        self.rulebook = rulebook
        self.world = plan.world
        self.side = side
        self.lettered = plan.world.lettered or plan.lettered
        first = self.first_standings()
        found = self.outcomes_of(list(first))
        self.standings = tuple([standing for standing in self.places() if standing in found])
        self._moves = tuple([self.let_at(standing) for standing in self.standings])
        for k in range(len(self.standings)):
            if not self._moves[k]:
                raise AllBarred(self.standings[k])
        none = nothing(self.lettered)
        self.start = tuple([first.get(standing, none) for standing in self.standings])
        index = {self.standings[k]: k for k in range(len(self.standings))}
        ways = [found[standing] for standing in self.standings]
        self._steps = [{move: self.in_order(table, index) for move, table in way.items()} for way in ways]
        self._pays = [{move: self.expected(standing, move) for move in found[standing]} for standing in self.standings]

    def first_standings(self):
        """The standings that can be the first one, with their chances."""
        board = self.world.boards[0]
        rules = () if self.rulebook is None else self.rulebook.states[:1]
        return {(board, state, *rules): lifted(chance, self.lettered) for state, chance in self.plan.start}

    def places(self):
        """All boards, states and rule states together, in their order."""
        pairs = [(board, state) for board in self.world.boards for state in self.plan.states]
        if self.rulebook is None:
            return pairs
        return [(*pair, rule) for pair in pairs for rule in self.rulebook.states]

    def let_at(self, standing):
        """The moves of the free side that are let at a standing."""
        if self.rulebook is None:
            return self.world.foe if self.side == "foe" else self.world.mine
        return self.rulebook.allowed(standing[2], standing[0])

    def outcomes_of(self, waiting):
        """For each standing that is reached from those that wait: for each
        move that is let there its outcomes."""
        found = {}
        while waiting:
            standing = waiting.pop()
            if standing not in found:
                found[standing] = {move: self.outcomes(standing, move) for move in self.let_at(standing)}
                for table in list(found[standing].values()):
                    waiting = waiting + [after for _, after in table]
        return found

    def pair_of(self, own, free):
        """My move and that of the foe."""
        return (own, free) if self.side == "foe" else (free, own)

    def outcomes(self, standing, free):
        """The chances of the pairs of a move of the plan and a next standing."""
        found = {}
        board, state = standing[:2]
        for own, chance in self.plan.play(state, board):
            mine, foe = self.pair_of(own, free)
            states = self.next_states(standing, own, free)
            for goal, part in self.world.going(board, mine, foe):
                share = times(lifted(chance, self.lettered), lifted(part, self.lettered))
                for behind, amount in states.items():
                    put(found, (own, (goal, *behind)), times(share, amount))
        return found

    def next_states(self, standing, own, free):
        """The chances of the plan's next state, with the next rule state if
        there is a rulebook, after these moves."""
        found = {}
        board, state = standing[:2]
        mine, foe = self.pair_of(own, free)
        for signal, chance in self.world.signals(board, mine, foe):
            rules = ()
            if self.rulebook is not None:
                rules = (self.rulebook.after(standing[2], board, mine, foe, signal),)
            for name, part in self.plan.after(state, board, own, signal):
                share = times(lifted(chance, self.lettered), lifted(part, self.lettered))
                put(found, (name, *rules), share)
        return found

    def in_order(self, table, index):
        """The outcomes as triples, by the plan's moves, then by the index."""
        moves = self.world.mine if self.side == "foe" else self.world.foe
        places = {(moves.index(own), index[after]): (own, after) for own, after in table}
        return tuple([(moves[at], k, table[places[(at, k)]]) for at, k in sorted(places)])

    def expected(self, standing, free):
        """The pair of the expected pays if the free side makes this move."""
        found = [nothing(self.lettered), nothing(self.lettered)]
        board, state = standing[:2]
        for own, chance in self.plan.play(state, board):
            mine, foe = self.pair_of(own, free)
            pays = self.world.pay(board, mine, foe)
            for at in (0, 1):
                share = times(lifted(chance, self.lettered), lifted(pays[at], self.lettered))
                found[at] = added(found[at], share)
        return tuple(found)

    def moves(self, k):
        """The moves of the free side that are let at the standing k."""
        if not is_integer(k) or k < 0 or k >= len(self.standings):
            raise BadNumber("standing", k)
        return self._moves[k]

    def check_move(self, k, move):
        """Raise BadName unless the move is let at the standing k."""
        if move not in self.moves(k):
            raise BadName(move)

    def steps(self, k, move):
        """What can follow if the free side makes this move."""
        self.check_move(k, move)
        return self._steps[k][move]

    def pay(self, k, move):
        """The pair of expected pays if the free side makes this move."""
        self.check_move(k, move)
        return self._pays[k][move]

    def settled(self, ratio):
        """The course with e = ratio."""
        plan = self.plan.settled(ratio)
        if self.rulebook is None:
            return Course(plan)
        return Course(plan, Rulebook(plan.world, self.rulebook.text, self.rulebook.side))
