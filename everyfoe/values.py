"""Values of a choice, and by how much each other move loses against it.

All values are kept over one row, the bottom, that has no root between 0 and 1
and is above 0 there. What a move loses is told by rows with the same sign: it
loses as soon as the first row that is not 0 is above 0.
"""

from everyfoe.amounts import lifted, nothing
from everyfoe.chains import gains_and_rests, nexts_of, reached_from, sums_within
from everyfoe.nearness import sign_after
from everyfoe.quotients import over_one_bottom
from everyfoe.rows import row_product, row_sum, row_times, value_at

HALF = (1, 2)


def kept_above(amounts, place):
    """The tops of amounts over one bottom that is above 0 at a ratio, and this
    bottom."""
    tops, bottom = over_one_bottom([lifted(amount, True) for amount in amounts])
    if value_at(bottom, place[0], place[1]) < 0:
        return [row_times(top, -1) for top in tops], row_times(bottom, -1)
    return tops, bottom


def less(row, parts):
    """The row less the sum of the products."""
    for one, other in parts:
        row = row_sum(row, row_times(row_product(one, other), -1))
    return row


class Totals:
    """The expected sums of all rounds from each standing."""

    def __init__(self, rounds, spots, place=HALF):
        self.rounds = rounds
        self.spots = spots
        self.tops, self.bottom = kept_above(spots, place)

    def losses(self, k, move):
        """What the move loses at a standing."""
        scale, worth, pairs = self.rounds.lines[k][move]
        parts = [(worth, self.bottom)] + [(row, self.tops[j]) for j, row in pairs]
        return [less(row_product(scale, self.tops[k]), parts)]


class Means:
    """The means from each standing, and their rests."""

    def __init__(self, rounds, gains, rests, place=HALF):
        self.rounds = rounds
        self.gains = gains
        self.rests = rests
        tops, self.bottom = kept_above([*gains, *rests], place)
        self.gain_tops = tops[:len(gains)]
        self.rest_tops = tops[len(gains):]

    def losses(self, k, move):
        """What the move loses at a standing: of the mean, then of the rests."""
        scale, worth, pairs = self.rounds.lines[k][move]
        gain = row_product(scale, self.gain_tops[k])
        rest = row_sum(gain, row_product(scale, self.rest_tops[k]))
        first = less(gain, [(row, self.gain_tops[j]) for j, row in pairs])
        parts = [(worth, self.bottom)] + [(row, self.rest_tops[j]) for j, row in pairs]
        return [first, less(rest, parts)]


def totals_of(rounds, choice):
    """The Totals of a choice. Where no round is worth anything from a standing
    on, its sum is 0; from all others the choice comes to an end, or to such a
    standing, with a chance."""
    rows = rounds.chain(choice)
    worths = rounds.worths(choice)
    none = nothing(rounds.lettered)
    nexts = nexts_of(rows)
    inner = []
    for k in range(len(rows)):
        if any([worths[j] != none for j in reached_from(nexts, [k])]):
            inner.append(k)
    sums = sums_within(rows, inner, worths, rounds.lettered)
    return Totals(rounds, [sums.get(k, none) for k in range(len(rows))])


def means_of(rounds, choice):
    """The Means of a choice."""
    gains, rests = gains_and_rests(rounds.chain(choice), rounds.worths(choice), rounds.lettered)
    return Means(rounds, gains, rests)


def first_choice(rounds):
    """A choice: the first move that is let at each standing."""
    return tuple([list(table)[0] for table in rounds.ways])


def best_values(rounds, choice, values_of, end):
    """A choice that no other one is better than, just behind an end, and its
    values. Where there is no letter, all ends are alike.

    From the given choice on, each standing at which some move gains takes that
    move. Such a choice is better in all standings where it differs, so none
    comes twice.
    """
    while True:
        values = values_of(rounds, choice)
        better = tuple([better_move(values, k, choice[k], end) for k in range(len(choice))])
        if better == choice:
            return choice, values
        choice = better


def better_move(values, k, own, end):
    """A move that gains at a standing, or the own one if there is none."""
    for move in values.rounds.lines[k]:
        if move != own and lost(values.losses(k, move), end) < 0:
            return move
    return own


def lost(rows, end):
    """The sign of what is lost just behind an end: that of the first row that
    is not 0."""
    for row in rows:
        if row:
            return sign_after(row, end)
    return 0
