"""Values of a choice, and by how much each other move loses against it.

All values are kept as rows over one row, the bottom, that has no root between
0 and 1 and is above 0 there; where there is no letter, all rows are numbers.
What a move loses is told by rows with the same sign: it loses as soon as the
first row that is not 0 is above 0.
"""

from everyfoe.amounts import amount_of, lifted, times, total
from everyfoe.chains import closed_classes_of, gains_and_rests, nexts_of, reached_from
from everyfoe.nearness import sign_after
from everyfoe.quotients import Quotient, over_one_bottom
from everyfoe.rows import row_product, row_sum, row_times, value_at
from everyfoe.systems import rows_of_answers

HALF = (1, 2)


def turned_up(tops, bottom, place):
    """The tops and the bottom, with all signs changed if the bottom is below 0
    at a ratio."""
    if value_at(bottom, place[0], place[1]) < 0:
        return [row_times(top, -1) for top in tops], row_times(bottom, -1)
    return tops, bottom


def less(row, parts):
    """The row less the sum of the products."""
    for one, other in parts:
        row = row_sum(row, row_times(row_product(one, other), -1))
    return row


class Totals:
    """The expected sums of all rounds from each standing."""

    def __init__(self, rounds, tops, bottom, place=HALF):
        self.rounds = rounds
        self.tops, self.bottom = turned_up(tops, bottom, place)

    def spots(self):
        """The sums, as amounts."""
        return [amount_of(top, self.bottom, self.rounds.lettered) for top in self.tops]

    def worth_tops(self):
        """The tops of what counts from the start."""
        return self.tops

    def losses(self, k, move):
        """What the move loses at a standing."""
        scale, worth, pairs = self.rounds.lines[k][move]
        parts = [(worth, self.bottom)] + [(row, self.tops[j]) for j, row in pairs]
        return [less(row_product(scale, self.tops[k]), parts)]


class Means:
    """The means from each standing, and their rests: the tops of both, one
    behind the other, are over the same bottom."""

    def __init__(self, rounds, tops, bottom, place=HALF):
        self.rounds = rounds
        self.tops, self.bottom = turned_up(tops, bottom, place)
        self.many = len(rounds.lines)

    def gains(self):
        """The means, as amounts."""
        return [amount_of(top, self.bottom, self.rounds.lettered) for top in self.tops[:self.many]]

    def rests(self):
        """The rests, as amounts."""
        return [amount_of(top, self.bottom, self.rounds.lettered) for top in self.tops[self.many:]]

    def worth_tops(self):
        """The tops of what counts from the start."""
        return self.tops[:self.many]

    def losses(self, k, move):
        """What the move loses at a standing: of the mean, then of the rests."""
        scale, worth, pairs = self.rounds.lines[k][move]
        gain = row_product(scale, self.tops[k])
        rest = row_sum(gain, row_product(scale, self.tops[self.many + k]))
        first = less(gain, [(row, self.tops[j]) for j, row in pairs])
        parts = [(worth, self.bottom)] + [(row, self.tops[self.many + j]) for j, row in pairs]
        return [first, less(rest, parts)]


def kept_totals(rounds, spots, place):
    """The Totals with these sums; the bottom is above 0 at a ratio."""
    tops, bottom = over_one_bottom([lifted(spot, True) for spot in spots])
    return Totals(rounds, tops, bottom, place)


def kept_means(rounds, gains, rests, place):
    """The Means with these means and rests; the bottom is above 0 at a ratio."""
    tops, bottom = over_one_bottom([lifted(amount, True) for amount in [*gains, *rests]])
    return Means(rounds, tops, bottom, place)


def worth_of_values(start, values):
    """The worth from the start: the sum of what counts from each standing,
    each with its chance to be the first one."""
    parts = []
    for chance, top in zip(start, values.worth_tops()):
        parts.append(times(lifted(chance, True), Quotient(top)))
    whole = total(parts, True)
    return amount_of(whole.top, row_product(whole.bottom, values.bottom), values.rounds.lettered)


def balance(line, k, column_of):
    """The rows by which the unknowns are multiplied: how much of its own a
    standing keeps beyond what it gives to the next ones."""
    scale, _, pairs = line
    table = {column_of[k]: scale} if k in column_of else {}
    for j, row in pairs:
        if j in column_of:
            at = column_of[j]
            table[at] = row_sum(table.get(at, ()), row_times(row, -1))
    return table


def totals_of(rounds, choice):
    """The Totals of a choice. Where no round is worth anything from a standing
    on, its sum is 0; from all others the choice comes to an end, or to such a
    standing, with a chance."""
    nexts = nexts_of(rounds.chain(choice))
    lines = [table[move] for table, move in zip(rounds.lines, choice)]
    inner = [k for k in range(len(lines)) if any([lines[j][1] for j in reached_from(nexts, [k])])]
    tops = [()] * len(lines)
    if not inner:
        return Totals(rounds, tops, (1,))
    column_of = {inner[at]: at for at in range(len(inner))}
    system = []
    for k in inner:
        table = balance(lines[k], k, column_of)
        system.append([table.get(at, ()) for at in range(len(inner))] + [lines[k][1]])
    bottom, found = rows_of_answers(system, len(inner))
    for k in inner:
        tops[k] = found[column_of[k]][0]
    return Totals(rounds, tops, bottom)


def means_of(rounds, choice):
    """The Means of a choice.

    If it has one closed class, the mean is the same from everywhere; it is the
    first unknown, in the place of the rests of a standing of the class.
    """
    classes = closed_classes_of(rounds.chain(choice))
    if len(classes) > 1:
        gains, rests = gains_and_rests(rounds.chain(choice), rounds.worths(choice), rounds.lettered)
        return kept_means(rounds, gains, rests, HALF)
    lines = [table[move] for table, move in zip(rounds.lines, choice)]
    others = [k for k in range(len(lines)) if k != classes[0][0]]
    column_of = {others[at]: at + 1 for at in range(len(others))}
    system = []
    for k in range(len(lines)):
        table = balance(lines[k], k, column_of)
        system.append([lines[k][0]] + [table.get(at + 1, ()) for at in range(len(others))] + [lines[k][1]])
    bottom, found = rows_of_answers(system, len(lines))
    rests = [found[column_of[k]][0] if k in column_of else () for k in range(len(lines))]
    return Means(rounds, [found[0][0]] * len(lines) + rests, bottom)


def first_choice(rounds):
    """A choice: the first move that is let at each standing."""
    return tuple([list(table)[0] for table in rounds.ways])


def best_values(rounds, choice, values_of, end):
    """A choice that no other one is better than, just behind an end, and its
    values. Where there is no letter, all ends are alike.

    From the given choice on, each standing at which some move gains takes that
    move. Such a choice is better in all standings where it differs, so none
    comes twice.
    """
    while True:
        values = values_of(rounds, choice)
        better = tuple([better_move(values, k, choice[k], end) for k in range(len(choice))])
        if better == choice:
            return choice, values
        choice = better


def better_move(values, k, own, end):
    """A move that gains at a standing, or the own one if there is none."""
    for move in values.rounds.lines[k]:
        if move != own and lost(values.losses(k, move), end) < 0:
            return move
    return own


def lost(rows, end):
    """The sign of what is lost just behind an end: that of the first row that
    is not 0."""
    for row in rows:
        if row:
            return sign_after(row, end)
    return 0
