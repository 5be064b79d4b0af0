"""Chains: places that lead to places by chances.

rows has for each place of a chain the pairs (place, chance) of the next ones,
without chances that are 0; start has for each place its chance to be the
first one; pays has for each place the amounts that a round is worth there.
"""

from everyfoe.amounts import added, negative, nothing, put, times, total, whole
from everyfoe.exact import lowest, shared_bottom
from everyfoe.systems import answers


def nexts_of(rows):
    """For each place the places that can be next."""
    return [[k for k, _ in pairs] for pairs in rows]


def reached_from(nexts, starts):
    """A dict of the places that are among the starts or can follow them."""
    found = {}
    waiting = list(starts)
    while waiting:
        k = waiting.pop()
        if k not in found:
            found[k] = True
            waiting = waiting + list(nexts[k])
    return found


def closed_classes_of(rows):
    """The closed classes, each as the ascending list of its places, ordered
    by their first ones."""
    nexts = nexts_of(rows)
    behind = [reached_from(nexts, nexts[k]) for k in range(len(nexts))]
    found = []
    seen = {}
    for k in range(len(nexts)):
        if k not in seen and all([k in behind[j] for j in behind[k]]):
            members = sorted(behind[k])
            found.append(members)
            for j in members:
                seen[j] = True
    return found


def chances_after(start, rows, rounds):
    """The chance of each place after so many rounds, for chances that are
    ratios. All of them are kept over one bottom, as integers."""
    base = shared_bottom(start)
    scale = shared_bottom([chance for pairs in rows for _, chance in pairs])
    ways = [[(k, top * (scale // bottom)) for k, (top, bottom) in pairs] for pairs in rows]
    found = [top * (base // bottom) for top, bottom in start]
    for _ in range(rounds):
        base = base * scale
        after = [0] * len(found)
        for k in range(len(found)):
            if found[k] != 0:
                for j, top in ways[k]:
                    after[j] = after[j] + found[k] * top
        found = after
    return tuple([lowest(number, base) for number in found])


def line_of(table, many, sides, lettered):
    """The line of a system: the amounts of the table in its columns, 0 in all
    others, then the right sides."""
    none = nothing(lettered)
    return [table.get(k, none) for k in range(many)] + sides


def class_chances(start, rows, classes, lettered):
    """The chance of each closed class: to end up in it from the start.

    The unknowns are the expected numbers of visits of the other places that
    can occur, and behind them the chances.
    """
    none = nothing(lettered)
    first = [k for k in range(len(rows)) if start[k] != none]
    closed = {k: True for members in classes for k in members}
    inner = [k for k in sorted(reached_from(nexts_of(rows), first)) if k not in closed]
    groups = [[k] for k in inner] + classes
    column_of = {k: at for at in range(len(groups)) for k in groups[at]}
    tables = [{at: whole(lettered)} for at in range(len(groups))]
    for k in inner:
        for j, chance in rows[k]:
            put(tables[column_of[j]], column_of[k], negative(chance))
    sides = [none] * len(groups)
    for k in first:
        sides[column_of[k]] = added(sides[column_of[k]], start[k])
    lines = [line_of(tables[at], len(groups), [sides[at]], lettered) for at in range(len(groups))]
    return [line[0] for line in answers(lines, len(groups), lettered)[len(inner):]]


def class_parts(members, rows, pays, lettered):
    """The means of a closed class for all amounts of its rounds, and the same
    amounts' rests: what beginning at each place is worth more than beginning
    at the first one. The means are the first of two tuples."""
    lines = []
    for k in members:
        table = {0: whole(lettered)}
        for j, chance in rows[k]:
            put(table, members.index(j), negative(chance))
        put(table, members.index(k), whole(lettered))
        # The first place has no unknown of its own: its column is the mean's.
        table[0] = whole(lettered)
        lines.append(line_of(table, len(members), list(pays[k]), lettered))
    found = answers(lines, len(members), lettered)
    return found[0], [[nothing(lettered)] * len(found[0]), *found[1:]]


def class_means(members, rows, pays, lettered):
    """The means of a closed class for all amounts of its rounds."""
    means, _ = class_parts(members, rows, pays, lettered)
    return means


def means_from_start(start, rows, pays, lettered):
    """The means of a chain from the start for all amounts of its rounds."""
    classes = closed_classes_of(rows)
    none = nothing(lettered)
    found = [none] * len(pays[0])
    for members, chance in zip(classes, class_chances(start, rows, classes, lettered)):
        if chance != none:
            means = class_means(members, rows, pays, lettered)
            found = [added(amount, times(chance, mean)) for amount, mean in zip(found, means)]
    return tuple(found)


def sums_within(rows, inner, pays, lettered):
    """For each of the inner places the expected sum of an amount of each round
    until another place is come to. From each inner place one comes to another
    place, or ends, with a chance."""
    column_of = {inner[at]: at for at in range(len(inner))}
    lines = []
    for k in inner:
        table = {column_of[k]: whole(lettered)}
        for j, chance in rows[k]:
            if j in column_of:
                put(table, column_of[j], negative(chance))
        lines.append(line_of(table, len(inner), [pays[k]], lettered))
    return {k: found[0] for k, found in zip(inner, answers(lines, len(inner), lettered))} if inner else {}


def drawn(rows, k, spots, lettered):
    """The expected spot of the place that is next after k; spots is a dict, and
    a place without a spot counts 0."""
    return total([times(chance, spots[j]) for j, chance in rows[k] if j in spots], lettered)


def gains_and_rests(rows, pays, lettered):
    """The means of an amount of each round from all places, and its rests:
    what beginning at a place is worth more than the mean in each round.

    The mean of the rests is 0 in each closed class. So one choice has lesser
    means, or the same ones and lesser rests, than another one that is better
    in one place and as good in all others.
    """
    gains, rests = {}, {}
    for members in closed_classes_of(rows):
        means, parts = class_parts(members, rows, [[pay] for pay in pays], lettered)
        found = {k: part for k, part in zip(members, parts)}
        shift = negative(class_means(members, rows, found, lettered)[0])
        for k in members:
            gains[k] = means[0]
            rests[k] = added(found[k][0], shift)
    inner = [k for k in range(len(rows)) if k not in gains]
    parts = {k: drawn(rows, k, gains, lettered) for k in inner}
    gains.update(sums_within(rows, inner, parts, lettered))
    parts = {k: total([pays[k], negative(gains[k]), drawn(rows, k, rests, lettered)], lettered) for k in inner}
    rests.update(sums_within(rows, inner, parts, lettered))
    return [gains[k] for k in range(len(rows))], [rests[k] for k in range(len(rows))]
