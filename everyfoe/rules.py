"""What the questions about free rules ask of their arguments."""

from everyfoe.errors import BadChoice, HasLetter


def check_plain(course):
    """Raise HasLetter if the course has a letter."""
    if course.lettered:
        raise HasLetter()


def check_choice(course, choice):
    """Raise BadChoice unless the choice has a move that is let for each
    standing."""
    if not isinstance(choice, (list, tuple)):
        raise BadChoice(0)
    many = len(course.standings)
    for k in range(min(many, len(choice))):
        if choice[k] not in course.moves(k):
            raise BadChoice(k)
    if len(choice) < many:
        raise BadChoice(len(choice))
    if len(choice) > many:
        raise BadChoice(many)
