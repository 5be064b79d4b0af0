"""Fields: the means of many plans against many others."""

from everyfoe.courses import Course
from everyfoe.means import greatest_mean
from everyfoe.meetings import Meeting

BEYOND = {"foe": (-1, 1), "mine": (1, -1)}


def field(plans, others):
    """The means of each plan of mine against each one of the foe."""
    return tuple([tuple([Meeting(plan, other).means() for other in others]) for plan in plans])


def outdone(plan):
    """The greatest mean of what the free side has more than the plan's side."""
    course = Course(plan)
    return greatest_mean(course, BEYOND[course.side])
