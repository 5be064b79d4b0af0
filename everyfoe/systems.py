"""Systems of equations, each with exactly one answer, whose numbers are
ratios or polynomials in one letter.

The answers are quotients of determinants, which are rows of integers. They are
found modulo as many numbers as their sizes ask for. Modulo one of them, the
system is solved at as many integers as their degrees ask for.
"""

from math import gcd, lcm

from everyfoe.amounts import amount_of, lifted
from everyfoe.exact import inverse
from everyfoe.moduli import first_modulus, next_modulus
from everyfoe.quotients import Quotient, over_one_bottom
from everyfoe.rows import content, row_product, row_times, trimmed
from everyfoe.solving import first_entry

SPARE = 20


def whole_line(line):
    """The amounts of a line as rows of integers: all of them times the same
    number, without a common divisor."""
    parts = [lifted(amount, True) for amount in line]
    scale = 1
    for part in parts:
        scale = lcm(scale, part.bottom[0])
    rows = [row_times(part.top, scale // part.bottom[0]) for part in parts]
    shared = 0
    for row in rows:
        shared = gcd(shared, content(row))
    return [tuple([item // shared for item in row]) for row in rows]


def degree(rows):
    """The greatest degree of a row among these, 0 if all are constant."""
    return max([1] + [len(row) for row in rows]) - 1


def most_degree(lines):
    """A degree that no determinant of the lines has more of."""
    by_lines = sum([degree(line) for line in lines])
    by_columns = sum([degree([line[j] for line in lines]) for j in range(len(lines[0]))])
    return min(by_lines, by_columns)


def size_of(rows):
    """The sum of all items of the rows, without their signs."""
    return sum([abs(item) for row in rows for item in row])


def greatest_size(lines, many):
    """A number that no item of a determinant is greater than: of the first
    many columns, or with a right side in the place of one of them."""
    product = 1
    extra = 1
    for line in lines:
        left = size_of(line[:many])
        product = product * left
        extra = extra + size_of(line[many:]) // left + 1
    return product * extra


def value_of(row, place):
    """The value of a row at an integer."""
    found = 0
    for item in row[::-1]:
        found = found * place + item
    return found


def reduced(line, lead, number):
    """The line less so much of the leading one that its first item would be
    0, times a number, without that item."""
    top = lead[0]
    factor = line[0]
    return [(top * a - factor * b) % number for a, b in zip(line[1:], lead[1:])]


def determined(lines, many, number):
    """A pair: the determinant of the first many columns of a square system,
    and for each right side the answers times it, modulo a number. None if they
    can not be told.

    Lines are multiplied instead of divided: shared is the product of all that
    they are multiplied by.
    """
    leads = []
    shared = 1
    product = 1
    for _ in range(many):
        at = first_entry(lines, 0, 0)
        if at is None:
            return None
        lead = lines[at]
        # Each line that the leading one goes past changes the sign.
        shared = shared if at % 2 == 0 else -shared
        left = []
        for line in lines[:at] + lines[at + 1:]:
            if line[0] == 0:
                left.append(line[1:])
            else:
                left.append(reduced(line, lead, number))
                shared = shared * lead[0] % number
        product = product * lead[0] % number
        leads.append(lead)
        lines = left
    back = inverse(product * shared, number)
    if back is None:
        return None
    determinant = product * product * back % number
    return determinant, put_back(leads, shared * back % number, determinant, number)


def put_back(leads, back, determinant, number):
    """For each right side the answers times the determinant, modulo a number.
    Each line begins with an item of an unknown that the ones behind it do not
    have; back is the inverse of the product of these items."""
    ahead = [1]
    for lead in leads:
        ahead.append(ahead[-1] * lead[0] % number)
    many = len(leads)
    columns = [[] for _ in leads[0][many:]]
    for k in range(many - 1, -1, -1):
        lead = leads[k]
        factor = back * ahead[k] % number
        known = lead[1:many - k]
        longer = []
        for side, column in zip(lead[many - k:], columns):
            rest = determinant * side - sum([a * b for a, b in zip(known, column)])
            longer.append([rest * factor % number] + column)
        columns = longer
        back = back * lead[0] % number
    return columns


def small_inverses(most, number):
    """The inverses of the integers from 1 to most modulo a number, behind a 0.
    None if one of them has none."""
    found = [0, 1]
    for k in range(2, most + 1):
        if number % k == 0 or gcd(number, k) > 1:
            return None
        found.append(-(number // k) * found[number % k] % number)
    return found


def interpolated(places, values, backs, number):
    """The items of the polynomial whose values at ascending integers are
    these, modulo a number, of no higher degree than there are places, less
    one. backs has the inverses of small integers."""
    steps = [values[0]]
    left = values
    for k in range(1, len(places)):
        gaps = [backs[high - low] for low, high in zip(places, places[k:])]
        left = [(b - a) * gap % number for a, b, gap in zip(left, left[1:], gaps)]
        steps.append(left[0])
    items = []
    for k in range(len(places) - 1, -1, -1):
        place = places[k]
        items = [(a - place * b) % number for a, b in zip([0] + items, items + [0])]
        items[0] = (items[0] + steps[k]) % number
    return items


def items_modulo(lines, many, most, number):
    """The items of all determinants of a system, one behind the other, most
    plus one for each, modulo a number: first the determinant of the first many
    columns, then those of all answers of each right side. None if they can not
    be told."""
    small = [[[item % number for item in row] for row in line] for line in lines]
    places = []
    found = []
    place = 2
    while len(places) <= most:
        if place > 2 * most + SPARE:
            return None
        parts = determined([[value_of(row, place) % number for row in line] for line in small], many, number)
        if parts is not None:
            places.append(place)
            found.append([parts[0]] + [top for tops in parts[1] for top in tops])
        place = place + 1
    backs = small_inverses(place, number)
    if backs is None:
        return None
    items = []
    for j in range(len(found[0])):
        items = items + interpolated(places, [values[j] for values in found], backs, number)
    return items


def joined(items, others, product, back, number):
    """The integers modulo product times number that are the items modulo the
    product, and the others modulo the number; back is the inverse of the
    product modulo the number."""
    return [one + product * ((other - one) * back % number) for one, other in zip(items, others)]


def rows_of_answers(lines, many):
    """The answers of a system of rows: a row, and for each unknown the rows of
    its answers times that one."""
    most = most_degree(lines)
    limit = 2 * greatest_size(lines, many)
    product = 1
    items = []
    number = first_modulus(limit)
    while product <= limit:
        found = items_modulo(lines, many, most, number)
        back = inverse(product, number)
        if found is not None and back is not None:
            items = joined(items, found, product, back, number) if items else found
            product = product * number
        number = next_modulus(number)
    signed = [item - product if 2 * item > product else item for item in items]
    rows = [trimmed(signed[at:at + most + 1]) for at in range(0, len(signed), most + 1)]
    return rows[0], [rows[1 + k::many] for k in range(many)]


def answers(lines, many, lettered):
    """The answers of a system: the first many amounts of a line are those by
    which the unknowns are multiplied, each further one is a right side. There
    are as many lines as unknowns. The unknowns are multiplied by ratios or
    polynomials, the right sides may be any amounts. Returns for each unknown
    the list of its amounts, one for each right side."""
    columns = [over_one_bottom([lifted(line[j], True) for line in lines]) for j in range(many, len(lines[0]))]
    plain = []
    for k in range(len(lines)):
        plain.append(whole_line(list(lines[k][:many]) + [Quotient(tops[k]) for tops, _ in columns]))
    bottom, found = rows_of_answers(plain, many)
    below = [row_product(bottom, row) for _, row in columns]
    return [[amount_of(tops[j], below[j], lettered) for j in range(len(below))] for tops in found]
