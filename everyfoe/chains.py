"""Chains: places that lead to places by chances.

rows has for each place of a chain the pairs (place, chance) of the next ones,
without chances that are 0; start has for each place its chance to be the
first one; pays has for each place the amounts that a round is worth there.
"""

from everyfoe.amounts import added, negative, nothing, put, whole
from everyfoe.exact import lowest, shared_bottom
from everyfoe.systems import answers


def nexts_of(rows):
    """For each place the places that can be next."""
    return [[k for k, _ in pairs] for pairs in rows]


def reached_from(nexts, starts):
    """A dict of the places that are among the starts or can follow them."""
    found = {}
    waiting = list(starts)
    while waiting:
        k = waiting.pop()
        if k not in found:
            found[k] = True
            waiting = waiting + list(nexts[k])
    return found


def closed_classes_of(rows):
    """The closed classes, each as the ascending list of its places, ordered
    by their first ones."""
    nexts = nexts_of(rows)
    behind = [reached_from(nexts, nexts[k]) for k in range(len(nexts))]
    found = []
    seen = {}
    for k in range(len(nexts)):
        if k not in seen and all([k in behind[j] for j in behind[k]]):
            members = sorted(behind[k])
            found.append(members)
            for j in members:
                seen[j] = True
    return found


def chances_after(start, rows, rounds):
    """The chance of each place after so many rounds, for chances that are
    ratios. All of them are kept over one bottom, as integers."""
    base = shared_bottom(start)
    scale = shared_bottom([chance for pairs in rows for _, chance in pairs])
    ways = [[(k, top * (scale // bottom)) for k, (top, bottom) in pairs] for pairs in rows]
    found = [top * (base // bottom) for top, bottom in start]
    for _ in range(rounds):
        base = base * scale
        after = [0] * len(found)
        for k in range(len(found)):
            if found[k] != 0:
                for j, top in ways[k]:
                    after[j] = after[j] + found[k] * top
        found = after
    return tuple([lowest(number, base) for number in found])


def line_of(table, many, sides, lettered):
    """The line of a system: the amounts of the table in its columns, 0 in all
    others, then the right sides."""
    none = nothing(lettered)
    return [table.get(k, none) for k in range(many)] + sides


def class_chances(start, rows, classes, lettered):
    """The chance of each closed class: to end up in it from the start.

    The unknowns are the expected numbers of visits of the other places that
    can occur, and behind them the chances.
    """
    none = nothing(lettered)
    first = [k for k in range(len(rows)) if start[k] != none]
    closed = {k: True for members in classes for k in members}
    inner = [k for k in sorted(reached_from(nexts_of(rows), first)) if k not in closed]
    groups = [[k] for k in inner] + classes
    column_of = {k: at for at in range(len(groups)) for k in groups[at]}
    tables = [{at: whole(lettered)} for at in range(len(groups))]
    for k in inner:
        for j, chance in rows[k]:
            put(tables[column_of[j]], column_of[k], negative(chance))
    sides = [none] * len(groups)
    for k in first:
        sides[column_of[k]] = added(sides[column_of[k]], start[k])
    lines = [line_of(tables[at], len(groups), [sides[at]], lettered) for at in range(len(groups))]
    return [line[0] for line in answers(lines, len(groups), lettered)[len(inner):]]


def class_means(members, rows, pays, lettered):
    """The means of a closed class for all amounts of its rounds.

    The unknowns are the mean and, for each place but the first one, what
    beginning there is worth more than beginning at the first one.
    """
    lines = []
    for k in members:
        table = {0: whole(lettered)}
        for j, chance in rows[k]:
            put(table, members.index(j), negative(chance))
        put(table, members.index(k), whole(lettered))
        # The first place has no unknown of its own: its column is the mean's.
        table[0] = whole(lettered)
        lines.append(line_of(table, len(members), list(pays[k]), lettered))
    return answers(lines, len(members), lettered)[0]
