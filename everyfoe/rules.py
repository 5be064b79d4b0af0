"""What the questions about free rules ask of their arguments, and sums over
the start of a course."""

from everyfoe.amounts import added, nothing, times
from everyfoe.errors import BadChoice, HasLetter


def check_plain(course):
    """Raise HasLetter if the course has a letter."""
    if course.lettered:
        raise HasLetter()


def check_choice(course, choice):
    """Raise BadChoice unless the choice has a move that is let for each
    standing."""
    if not isinstance(choice, (list, tuple)):
        raise BadChoice(0)
    many = len(course.standings)
    for k in range(min(many, len(choice))):
        if choice[k] not in course.moves(k):
            raise BadChoice(k)
    if len(choice) < many:
        raise BadChoice(len(choice))
    if len(choice) > many:
        raise BadChoice(many)


def from_start(course, spots):
    """The sum of the spots of the standings, each with its chance to be the
    first one."""
    found = nothing(course.lettered)
    for chance, spot in zip(course.start, spots):
        found = added(found, times(chance, spot))
    return found
