"""Two plans: at which patience no side gains by leaving its own."""

from everyfoe.amounts import put, times, total
from everyfoe.closed import ALL, in_both, joined, not_below
from everyfoe.courses import Course
from everyfoe.directions import OWN_PAYS
from everyfoe.errors import BadName, BadNumber, HasLetter
from everyfoe.exact import ONE, ZERO, as_ratio, minus
from everyfoe.keeping import kept
from everyfoe.meetings import Meeting
from everyfoe.pieces import patience_pieces
from everyfoe.plans import SIDES
from everyfoe.rounds import discounted, patient, rounds_in
from everyfoe.texts import is_inner
from everyfoe.values import HALF, best_values, first_choice, kept_totals, totals_of, worth_of_values


class Stretch:
    """All numbers from one end to another one."""

    def __init__(self, low, high):
        self.low = low
        self.high = high


class Gain:
    """What a side gains at a patience, and a choice that brings it."""

    def __init__(self, number, choice):
        self.number = number
        self.choice = kept(choice)


def met(plan, other, wide):
    """The Meeting of two plans without a letter."""
    meeting = Meeting(plan, other, wide)
    if meeting.lettered:
        raise HasLetter()
    return meeting


def steady(plan, other, side, *, everywhere=False):
    """The stretches of patience on which a side, or both, do not gain."""
    meeting = met(plan, other, everywhere)
    if side not in ("mine", "foe", "both"):
        raise BadName(side)
    found = ALL
    for name in SIDES:
        if side in (name, "both"):
            at = SIDES.index(name)
            found = in_both(found, steady_everywhere(meeting, at) if everywhere else steady_from_start(meeting, at))
    return tuple([Stretch(low, high) for low, high in found])


def course_of(meeting, at):
    """The course in which the side with this index is free."""
    return Course(meeting.other if at == 0 else meeting.plan)


def steady_from_start(meeting, at):
    """Where the side with this index does not gain from the start: where its
    best worth is not above its own one. The bottoms of both have no root
    between 0 and 1, so they are above 0 there."""
    own = meeting.patience()[at]
    found = []
    for piece in patience_pieces(course_of(meeting, at), OWN_PAYS[at]):
        found = found + not_below((own - piece.worth).top, piece.low, piece.high)
    return joined(found)


def steady_everywhere(meeting, at):
    """Where the side with this index gains from no joint standing of a wide
    meeting: where no round of another move is better."""
    rounds = patient([other_ways(meeting, at, standing) for standing in meeting.standings])
    own = kept_totals(rounds, [worths[at] for worths in meeting.patience_each()], HALF)
    found = ALL
    for k in range(len(rounds.lines)):
        for move in rounds.lines[k]:
            found = in_both(found, not_below(own.losses(k, move)[0], ZERO, ONE))
    return found


def other_ways(meeting, at, standing):
    """The ways of a joint standing for each move of the side with this index:
    a dict of the moves to the expected pay and the chances of what is next."""
    index = {meeting.standings[k]: k for k in range(len(meeting.standings))}
    board, own, against = standing
    found = {}
    for move in (meeting.world.mine, meeting.world.foe)[at]:
        pays = []
        chances = {}
        for answer, chance in meeting.other.play(against, board) if at == 0 else meeting.plan.play(own, board):
            mine, foe = (move, answer) if at == 0 else (answer, move)
            pays.append(times(chance, meeting.world.pay(board, mine, foe)[at]))
            for after, part in meeting.drawn(standing, mine, foe).items():
                put(chances, index[after], times(chance, part))
        found[move] = (total(pays, False), [(k, chances[k]) for k in sorted(chances)])
    return found


def gain_at(plan, other, side, x):
    """What a side gains from the start at a patience."""
    meeting = met(plan, other, False)
    if side not in SIDES:
        raise BadName(side)
    if not is_inner(x):
        raise BadNumber("x", x)
    at = SIDES.index(side)
    later = as_ratio(x)
    course = course_of(meeting, at)
    rounds = discounted(rounds_in(course, OWN_PAYS[at]).ways, minus(ONE, later), later)
    choice, totals = best_values(rounds, first_choice(rounds), totals_of, ZERO)
    return Gain(minus(worth_of_values(course.start, totals), meeting.patience()[at].at(later)), choice)
