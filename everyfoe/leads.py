"""Leads: the greatest sums of worths that runs can have."""

from everyfoe.amounts import nothing
from everyfoe.directions import checked_direction, worth
from everyfoe.exact import lowest, shared_bottom
from everyfoe.keeping import kept


class Lead:
    """The greatest sum of a run from the start, and of runs from all
    standings."""

    def __init__(self, number, run, spots):
        self.number = number
        self.run = kept(run)
        self.spots = kept(spots)


class Gaining:
    """A ring with a sum above 0, and a run that leads to it from the start."""

    def __init__(self, run, ring):
        self.run = kept(run)
        self.ring = kept(ring)


def all_steps(course):
    """For each standing the steps that can happen there."""
    found = []
    for k in range(len(course.standings)):
        steps = {}
        for free in course.moves(k):
            for own, after, _ in course.steps(k, free):
                mine, foe = (own, free) if course.side == "foe" else (free, own)
                steps[(k, mine, foe, after)] = True
        found.append(list(steps))
    return found


def whole_worths(course, c, steps):
    """The worths of all steps as integers, and their bottom."""
    table = {}
    for k in range(len(steps)):
        for step in steps[k]:
            mine, foe = step[1:3]
            table[step] = worth(c, course.world.pay(course.standings[k][0], mine, foe))
    bottom = shared_bottom(list(table.values()))
    return {step: top * (bottom // below) for step, (top, below) in table.items()}, bottom


def best_steps(steps, worths, spots):
    """For each standing the greatest sum of a run of one more step, behind
    which the sums are the spots, and its first step; 0 and None for the empty
    run."""
    found = []
    for k in range(len(steps)):
        best, first = 0, None
        for step in steps[k]:
            number = worths[step] + spots[step[3]]
            if number > best:
                best, first = number, step
        found.append((best, first))
    return found


def traced(levels, k):
    """The run from the standing k on, by the first steps of the last level,
    then of the one ahead of it, and so on."""
    run = []
    for level in reversed(levels):
        step = level[k][1]
        if step is None:
            return run
        run.append(step)
        k = step[3]
    return run


def ring_in(run):
    """A ring within a run that comes to some standing twice."""
    last = {}
    for at in range(len(run)):
        last[run[at][0]] = at
        if run[at][3] in last:
            return run[last[run[at][3]]:at + 1]
    return []


def way_to(steps, firsts, goal):
    """A shortest run from one of the first standings to the goal."""
    ways = {k: [] for k in firsts}
    waiting = list(firsts)
    while goal not in ways:
        following = []
        for k in waiting:
            for step in steps[k]:
                if step[3] not in ways:
                    ways[step[3]] = ways[k] + [step]
                    following.append(step[3])
        waiting = following
    return ways[goal]


def lead(course, c):
    """The Lead in a direction, or a Gaining if there is none.

    A run of as many steps as there are standings comes to some standing
    twice. If it has a greater sum than all shorter ones, its rings have sums
    above 0; if none has, no longer run has either.
    """
    direction = checked_direction(c)
    steps = all_steps(course)
    worths, bottom = whole_worths(course, direction, steps)
    firsts = [k for k in range(len(steps)) if course.start[k] != nothing(course.lettered)]
    levels = []
    spots = [0] * len(steps)
    for _ in steps:
        levels.append(best_steps(steps, worths, spots))
        before = spots
        spots = [best for best, _ in levels[-1]]
    for k in range(len(steps)):
        if spots[k] > before[k]:
            ring = ring_in(traced(levels, k))
            return Gaining(way_to(steps, firsts, ring[0][0]), ring)
    number = max([spots[k] for k in firsts])
    first = [k for k in firsts if spots[k] == number][0]
    return Lead(lowest(number, bottom), traced(levels, first), [lowest(spot, bottom) for spot in spots])
