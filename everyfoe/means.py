"""Greatest means of free rules, and the papers that show them."""

from everyfoe.chains import means_from_start
from everyfoe.directions import checked_direction
from everyfoe.exact import ZERO, as_ratio, is_ratio, lowest, order, plus
from everyfoe.keeping import kept
from everyfoe.rounds import next_chances, rounds_in
from everyfoe.rules import check_choice, check_plain
from everyfoe.values import best_values, first_choice, kept_means, means_of, worth_of_values


class Mean:
    """The greatest mean from the start, a choice that has it, and a paper."""

    def __init__(self, worth, choice, gains, rests):
        self.worth = worth
        self.choice = kept(choice)
        self.gains = kept(gains)
        self.rests = kept(rests)


def greatest_mean(course, c):
    """The greatest mean in a direction."""
    check_plain(course)
    return best_mean(course, rounds_in(course, checked_direction(c)), None)


def best_mean(course, rounds, choice):
    """The greatest mean of the rounds of a course, looked for from a choice
    on, or from any one if it is None."""
    start = first_choice(rounds) if choice is None else choice
    best, means = best_values(rounds, start, means_of, ZERO)
    return Mean(worth_of_values(course.start, means), best, means.gains(), paper_rests(rounds, means))


def paper_rests(rounds, means):
    """The rests of a paper with these gains.

    A move that loses of the mean may gain in rests. Therefore so many times
    the gains are added to the rests that no such move gains any more; moves
    that lose nothing of the mean do not feel it.
    """
    most = ZERO
    for k in range(len(rounds.lines)):
        for move in rounds.lines[k]:
            first, second = means.losses(k, move)
            if first and second and second[0] < 0:
                ratio = lowest(-second[0], first[0])
                most = ratio if order(most, ratio) < 0 else most
    extra = [lowest(gain[0] * most[0], gain[1] * most[1]) for gain in means.gains()]
    return [plus(rest, more) for rest, more in zip(means.rests(), extra)]


def mean_of(course, choice):
    """The pair of the means of a choice from the start."""
    check_plain(course)
    check_choice(course, choice)
    rows = [next_chances(course.steps(k, choice[k])) for k in range(len(choice))]
    pays = [course.pay(k, choice[k]) for k in range(len(choice))]
    return means_from_start(course.start, rows, pays, False)


def is_ratios(value, many):
    """Whether the value is a tuple of so many ratios."""
    return isinstance(value, tuple) and len(value) == many and all([is_ratio(item) for item in value])


def mean_holds(course, c, gains, rests):
    """Whether two values are a paper of a direction."""
    check_plain(course)
    direction = checked_direction(c)
    many = len(course.standings)
    if not is_ratios(gains, many) or not is_ratios(rests, many):
        return False
    rounds = rounds_in(course, direction)
    paper = kept_means(rounds, [as_ratio(gain) for gain in gains], [as_ratio(rest) for rest in rests], ZERO)
    losses = [paper.losses(k, move) for k in range(many) for move in rounds.lines[k]]
    return all([not row or row[0] > 0 for pair in losses for row in pair])
