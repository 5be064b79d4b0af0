"""Pieces: the best worths for all patience, the best means for all errors."""

from everyfoe.borders import between, compared, is_end, roots_within, sign_at
from everyfoe.directions import checked_direction
from everyfoe.errors import BadNumber, NoLetter
from everyfoe.exact import ONE, ZERO
from everyfoe.keeping import kept
from everyfoe.nearness import first_fall, roots_behind, sign_after
from everyfoe.quotients import Quotient
from everyfoe.rounds import patient_rounds, rounds_in
from everyfoe.rules import check_choice, check_plain
from everyfoe.signs import has_root
from everyfoe.texts import is_inner
from everyfoe.values import (
    Means,
    best_values,
    first_choice,
    kept_means,
    kept_totals,
    means_of,
    totals_of,
    worth_of_values,
)


class Piece:
    """A longest stretch on which the worth from the start is one Quotient."""

    def __init__(self, low, high, worth, parts):
        self.low = low
        self.high = high
        self.worth = worth
        self.parts = kept(parts)


class Part:
    """A stretch on which a choice is best under patience."""

    def __init__(self, low, high, choice, spots):
        self.low = low
        self.high = high
        self.choice = kept(choice)
        self.spots = kept(spots)


class ErrorPart:
    """A stretch on which a choice is best under errors."""

    def __init__(self, low, high, choice, gains, rests):
        self.low = low
        self.high = high
        self.choice = kept(choice)
        self.gains = kept(gains)
        self.rests = kept(rests)


def lettered_rounds(course, direction):
    """The rounds of a course in its letter: x if it has no e."""
    return rounds_in(course, direction) if course.lettered else patient_rounds(course, direction)


def choice_values(course):
    """The function that tells the values of a choice."""
    return means_of if course.lettered else totals_of


def first_loss(rows, low, high):
    """The first number strictly between two ends at or behind which the rows
    of what a move loses do not show that it does not gain, or None.

    If a move loses of the mean on all of a stretch but at single numbers, it
    must not gain in rests at these.
    """
    last = rows[-1]
    if len(rows) == 1 or not rows[0]:
        return first_fall(last, low, high) if last else None
    for root in roots_behind(rows[0], low, high):
        if sign_after(rows[0], root) < 0 or (last and sign_at(last, root) < 0):
            return root
    return None


def part_end(values, choice, low):
    """The end up to which a choice that is best just behind low stays best."""
    high = ONE
    for k in range(len(choice)):
        for move in values.rounds.lines[k]:
            if move != choice[k]:
                found = first_loss(values.losses(k, move), low, high)
                high = high if found is None else found
    return high


def part_of(low, high, choice, values):
    """The part with these values."""
    if isinstance(values, Means):
        return ErrorPart(low, high, choice, values.gains(), values.rests())
    return Part(low, high, choice, values.spots())


def all_pieces(course, direction):
    """The pieces of a course, found part by part from 0 on."""
    rounds = lettered_rounds(course, direction)
    values_of = choice_values(course)
    choice = first_choice(rounds)
    pieces = []
    low = ZERO
    while low != ONE:
        choice, values = best_values(rounds, choice, values_of, low)
        high = part_end(values, choice, low)
        worth = worth_of_values(course.start, values)
        part = part_of(low, high, choice, values)
        if pieces and pieces[-1].worth == worth:
            last = pieces[-1]
            pieces[-1] = Piece(last.low, high, worth, [*last.parts, part])
        else:
            pieces.append(Piece(low, high, worth, [part]))
        low = high
    return tuple(pieces)


def patience_pieces(course, c):
    """The pieces of a course without e."""
    check_plain(course)
    return all_pieces(course, checked_direction(c))


def error_pieces(course, c):
    """The pieces of a course with e."""
    if not course.lettered:
        raise NoLetter()
    return all_pieces(course, checked_direction(c))


def first_error(course, c):
    """The worth for small errors, and up to where it is the worth."""
    first = error_pieces(course, c)[0]
    return (first.worth, first.high)


def worth_in(pieces, ratio):
    """The worth from the start at a ratio."""
    if not is_inner(ratio):
        raise BadNumber("at", ratio)
    for piece in pieces:
        if compared(ratio, piece.high) <= 0:
            return piece.worth.at(ratio)
    return None


def worth_of(course, choice, c):
    """The worth of a choice from the start, a Quotient."""
    direction = checked_direction(c)
    check_choice(course, choice)
    values_of = choice_values(course)
    return worth_of_values(course.start, values_of(lettered_rounds(course, direction), choice))


def order_of(course, one, other, c):
    """Where one choice has the greater worth and where another one has."""
    checked_direction(c)
    check_choice(course, one)
    check_choice(course, other)
    difference = worth_of(course, one, c) - worth_of(course, other, c)
    if not difference.top:
        return ((ZERO, ONE, 0),)
    ends = [ZERO, *roots_within(difference.top, ZERO, ONE), ONE]
    found = []
    for k in range(len(ends) - 1):
        value = difference.at(between(ends[k], ends[k + 1]))
        found.append((ends[k], ends[k + 1], 1 if value[0] > 0 else -1))
    return tuple(found)


def follow_each_other(items, low, high):
    """Whether the stretches of the items follow each other from low to high."""
    if not items or not all([is_end(item.low) and is_end(item.high) for item in items]):
        return False
    if compared(items[0].low, low) != 0 or compared(items[-1].high, high) != 0:
        return False
    if not all([compared(item.low, item.high) < 0 for item in items]):
        return False
    return all([compared(items[k].low, items[k - 1].high) == 0 for k in range(1, len(items))])


def are_quotients(value, many):
    """Whether the value is a tuple of so many Quotients."""
    return isinstance(value, tuple) and len(value) == many and all([isinstance(item, Quotient) for item in value])


def told_values(course, rounds, part):
    """The values that a part tells, or None if it is none of this course. They
    are kept over a row that is above 0 at some number of the part."""
    many = len(course.standings)
    choice = part.choice
    if not isinstance(choice, tuple) or len(choice) != many:
        return None
    if not all([choice[k] in course.moves(k) for k in range(many)]):
        return None
    place = between(part.low, part.high)
    if not course.lettered:
        return kept_totals(rounds, part.spots, place) if are_quotients(part.spots, many) else None
    if are_quotients(part.gains, many) and are_quotients(part.rests, many):
        return kept_means(rounds, part.gains, part.rests, place)
    return None


def never_gains(rows, low, high):
    """Whether the rows of what a move loses show that it gains nowhere on a
    stretch."""
    for row in rows:
        if row:
            return sign_after(row, low) > 0 and first_loss(rows, low, high) is None
    return True


def part_holds(course, rounds, part, worth):
    """Whether a part is right, and the worth from the start is its worth."""
    values = told_values(course, rounds, part)
    if values is None or has_root(values.bottom, part.low, part.high):
        return False
    for k in range(len(part.choice)):
        if any(values.losses(k, part.choice[k])):
            return False
        for move in course.moves(k):
            if not never_gains(values.losses(k, move), part.low, part.high):
                return False
    return worth_of_values(course.start, values) == worth


def are_pieces(course, pieces):
    """Whether the value is a tuple of pieces with parts that fit the course,
    whose stretches follow each other."""
    if not isinstance(pieces, tuple) or not all([isinstance(piece, Piece) for piece in pieces]):
        return False
    if not follow_each_other(pieces, ZERO, ONE):
        return False
    for piece in pieces:
        if not isinstance(piece.parts, tuple) or not isinstance(piece.worth, Quotient):
            return False
        fits = [isinstance(part, ErrorPart) if course.lettered else isinstance(part, Part) for part in piece.parts]
        if not all(fits) or not follow_each_other(piece.parts, piece.low, piece.high):
            return False
    return True


def pieces_hold(course, c, pieces):
    """Whether the value is the tuple of the pieces of a course."""
    direction = checked_direction(c)
    if not are_pieces(course, pieces):
        return False
    if any([pieces[k].worth == pieces[k - 1].worth for k in range(1, len(pieces))]):
        return False
    rounds = lettered_rounds(course, direction)
    return all([part_holds(course, rounds, part, piece.worth) for piece in pieces for part in piece.parts])
