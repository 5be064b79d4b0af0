"""Events: how likely and how often free rules can bring them about."""

from everyfoe.amounts import total
from everyfoe.errors import BadName
from everyfoe.exact import ZERO
from everyfoe.keeping import kept
from everyfoe.means import best_mean
from everyfoe.rounds import Rounds, next_chances
from everyfoe.rules import check_plain
from everyfoe.values import best_values, first_choice, totals_of, worth_of_values


class Chance:
    """The greatest chance from the start and from all standings, and a choice
    that has it."""

    def __init__(self, number, choice, spots):
        self.number = number
        self.choice = kept(choice)
        self.spots = kept(spots)


class Number:
    """The greatest number from the start and from all standings, and a choice
    that has it."""

    def __init__(self, number, choice, spots):
        self.number = number
        self.choice = kept(choice)
        self.spots = kept(spots)


class Always:
    """A choice with a mean number of rounds of the event in a round that is
    above 0."""

    def __init__(self, choice, mean):
        self.choice = kept(choice)
        self.mean = mean


def is_mark(value):
    """Whether the value is a tuple of three strings."""
    return isinstance(value, tuple) and len(value) == 3 and all([isinstance(word, str) for word in value])


def check_event(world, event):
    """Raise BadName unless this is an event of the world."""
    if not isinstance(event, (list, tuple)) or len(event) == 0 or not all([is_mark(mark) for mark in event]):
        raise BadName(event)
    for mark in event:
        for word, names in zip(mark, (world.boards, world.mine, world.foe)):
            if word != "*" and word not in names:
                raise BadName(mark)


def is_of(event, words):
    """Whether a board and both moves are of the event."""
    return any([all([told in ("*", word) for told, word in zip(mark, words)]) for mark in event])


def event_rounds(course, event, ending):
    """The rounds of a course, worth their chance to be of the event. If it is
    ending, nothing follows a round of the event."""
    ways = []
    for k in range(len(course.standings)):
        table = {}
        for move in course.moves(k):
            hits, misses = [], []
            for step in course.steps(k, move):
                moves = (step[0], move) if course.side == "foe" else (move, step[0])
                if is_of(event, (course.standings[k][0], *moves)):
                    hits.append(step)
                else:
                    misses.append(step)
            worth = total([chance for _, _, chance in hits], course.lettered)
            table[move] = (worth, next_chances(misses if ending else hits + misses))
        ways.append(table)
    return Rounds(ways, course.lettered)


def greatest_chance(course, event):
    """The greatest chance that some round is of the event."""
    check_plain(course)
    check_event(course.world, event)
    rounds = event_rounds(course, event, True)
    choice, totals = best_values(rounds, first_choice(rounds), totals_of, ZERO)
    return Chance(worth_of_values(course.start, totals), choice, totals.spots())


def greatest_number(course, event):
    """The greatest expected number of rounds of the event, or an Always if
    there is none. As each standing can be come to, one that has no greatest
    number is enough for that."""
    check_plain(course)
    check_event(course.world, event)
    rounds = event_rounds(course, event, False)
    mean = best_mean(course, rounds, None)
    if mean.worth != ZERO:
        return Always(mean.choice, mean.worth)
    choice, totals = best_values(rounds, first_choice(rounds), totals_of, ZERO)
    return Number(worth_of_values(course.start, totals), choice, totals.spots())
