"""Stable groupings of the states of a plan."""

from everyfoe.amounts import key_of, put


def given_at(world, side):
    """For each board and move of the side, the signals that this board can
    give for the move and some move of the other side, each once."""
    table = {}
    for board, mine, foe in world.places():
        found = table.setdefault((board, mine if side == "mine" else foe), {})
        for signal, _ in world.signals(board, mine, foe):
            found[signal] = True
    return {at: list(signals) for at, signals in table.items()}


class Seen:
    """What counts of a plan: its states that are used, in order, and for each
    of them and each place (board, move, signal) that can come about there the
    distribution of the next state."""

    def __init__(self, plan):
        self.plan = plan
        self.given = given_at(plan.world, plan.side)
        self.table = {}
        waiting = [state for state, _ in plan.start]
        while waiting:
            state = waiting.pop()
            if state not in self.table:
                self.table[state] = self.ways(state)
                waiting = waiting + [name for pairs in list(self.table[state].values()) for name, _ in pairs]
        self.states = [state for state in plan.states if state in self.table]

    def ways(self, state):
        """The distributions of the next state, by place."""
        found = {}
        for board in self.plan.world.boards:
            for move, _ in self.plan.play(state, board):
                for signal in self.given[(board, move)]:
                    found[(board, move, signal)] = self.plan.after(state, board, move, signal)
        return found

    def plays_key(self, state):
        """What states that play alike have in common."""
        plays = [self.plan.play(state, board) for board in self.plan.world.boards]
        return tuple([tuple([(move, key_of(chance)) for move, chance in pairs]) for pairs in plays])

    def ways_key(self, state, group_of):
        """What states that go on alike into the groups have in common."""
        sums = [grouped(pairs, group_of) for pairs in list(self.table[state].values())]
        return tuple([tuple([(k, key_of(chance)) for k, chance in pairs]) for pairs in sums])


def grouped(pairs, group_of):
    """The chances of the groups in a distribution of states, in order."""
    found = {}
    for state, chance in pairs:
        put(found, group_of[state], chance)
    return [(k, found[k]) for k in sorted(found)]


def numbered(keys):
    """The places of the keys, which are a dict, by the order in which unlike
    ones first occur."""
    places = {}
    found = {}
    for state, key in keys.items():
        found[state] = places.setdefault(key, len(places))
    return found


def coarsest(seen):
    """The stable grouping with the fewest groups: for each state that is used
    the index of its group.

    States that play alike are together at first; a group is cut as long as
    its states do not go on alike. No two states that some stable grouping
    holds together are ever parted.
    """
    group_of = numbered({state: seen.plays_key(state) for state in seen.states})
    while True:
        keys = {state: (group_of[state], seen.ways_key(state, group_of)) for state in seen.states}
        finer = numbered(keys)
        if max(list(finer.values())) == max(list(group_of.values())):
            return finer
        group_of = finer
