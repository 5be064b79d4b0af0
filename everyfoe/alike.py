"""Plans that look alike from the free side, or bring the same pays."""

from everyfoe.amounts import negative, put, times, total
from everyfoe.courses import Course
from everyfoe.directions import checked_direction, worth
from everyfoe.drafts import check_sides, check_world
from everyfoe.errors import HasLetter
from everyfoe.exact import ZERO
from everyfoe.guesses import guessed
from everyfoe.keeping import kept
from everyfoe.rounds import next_chances
from everyfoe.spans import Search, whole_items, whole_ways


class Alike:
    """Rows that show that two plans are alike."""

    def __init__(self, rows):
        self.rows = kept(rows)


class Parting:
    """A word that tells two plans apart, and what both make of it."""

    def __init__(self, word, chances):
        self.word = kept(word)
        self.chances = kept(chances)


def check_pair(plan, other):
    """Raise an error unless both plans can be compared."""
    check_sides([plan, other])
    check_world(plan.world, [other])
    if plan.lettered or other.lettered or plan.world.lettered:
        raise HasLetter()


def letters_at(world, board, side):
    """The possible letters on a board: a dict of the pairs of a move of the
    plan's side and a signal to the pairs of a letter and the next board."""
    found = {}
    for mine in world.mine:
        for foe in world.foe:
            own, free = (mine, foe) if side == "mine" else (foe, mine)
            for signal, _ in world.signals(board, mine, foe):
                steps = found.setdefault((own, signal), [])
                for goal, _ in world.going(board, mine, foe):
                    steps.append(((own, free, signal, goal), goal))
    return found


def state_ways(plan, board, own, signal):
    """For each state the pairs of the index of a next state and the chance
    that the plan makes the move and goes there."""
    index = {plan.states[k]: k for k in range(len(plan.states))}
    found = []
    for state in plan.states:
        share = dict(plan.play(state, board)).get(own)
        after = () if share is None else plan.after(state, board, own, signal)
        found.append([(index[name], times(share, chance)) for name, chance in after])
    return found


def side_by_side(first, second):
    """The ways of two plans as one way of joint rows."""
    many = len(first)
    shifted = [[(many + k, chance) for k, chance in pairs] for pairs in second]
    return whole_ways([*first, *shifted])


def joint_start(first, second):
    """The first joint row of two rows of chances."""
    return whole_items([*first, *[negative(chance) for chance in second]])


def starts_of(plan):
    """The chance of each state to be the first one."""
    chances = dict(plan.start)
    return [chances.get(state, ZERO) for state in plan.states]


def word_chance(plan, word):
    """The chance of a word under a plan."""
    spots = starts_of(plan)
    board = plan.world.boards[0]
    for own, _, signal, goal in word:
        spots = ratios_led(spots, state_ways(plan, board, own, signal))
        board = goal
    return total(spots, False)


def ratios_led(spots, ways):
    """The ratios that ratios are led to."""
    found = {}
    for spot, pairs in zip(spots, ways):
        for k, chance in pairs:
            put(found, k, times(spot, chance))
    return [found.get(k, ZERO) for k in range(len(spots))]


def word_or_rows(place, row, ways, marks):
    """A pair: the shortest word that shows a wrong row, or None; and if there
    is none, the rows of all places, a dict."""
    rows = guessed(place, row, ways, marks)
    if rows is not None:
        return None, rows
    search = Search(place, row, ways, marks)
    return search.wrong_word(), search.all_rows()


def as_ratios(rows):
    """Rows of integers as rows of ratios."""
    return [[(item, 1) for item in row] for row in rows]


def alike(plan, other):
    """Whether two plans look alike: an Alike or a Parting."""
    check_pair(plan, other)
    world = plan.world
    ways = {}
    for board in world.boards:
        ways[board] = []
        for (own, signal), steps in letters_at(world, board, plan.side).items():
            way = side_by_side(state_ways(plan, board, own, signal), state_ways(other, board, own, signal))
            ways[board].append((way, steps))
    row = joint_start(starts_of(plan), starts_of(other))
    word, rows = word_or_rows(world.boards[0], row, ways, [((), [1] * len(row))])
    if word is not None:
        return Parting(word, (word_chance(plan, word), word_chance(other, word)))
    return Alike([as_ratios(rows[board]) for board in world.boards])


def course_ways(course, move):
    """For each standing the pairs of a next standing and its chance."""
    return [next_chances(course.steps(k, move)) for k in range(len(course.standings))]


def course_worths(course, move, direction):
    """The worth of the expected pay at each standing."""
    return [worth(direction, course.pay(k, move)) for k in range(len(course.standings))]


def last_pay(course, word, direction):
    """The expected pay of the last round of a row of free moves."""
    spots = course.start
    for move in word[:-1]:
        spots = ratios_led(spots, course_ways(course, move))
    worths = course_worths(course, word[-1], direction)
    return total([times(spot, item) for spot, item in zip(spots, worths)], False)


def alike_in_pay(plan, other, c):
    """Whether two plans bring the same expected pays in a direction: an Alike
    or a Parting."""
    check_pair(plan, other)
    direction = checked_direction(c)
    courses = (Course(plan), Course(other))
    ways = []
    marks = []
    for move in courses[0].moves(0):
        way = side_by_side(course_ways(courses[0], move), course_ways(courses[1], move))
        ways.append((way, [(move, 0)]))
        pays = [item for course in courses for item in course_worths(course, move, direction)]
        marks.append(((move,), whole_items(pays)))
    word, rows = word_or_rows(0, joint_start(courses[0].start, courses[1].start), {0: ways}, marks)
    if word is not None:
        return Parting(word, [last_pay(course, word, direction) for course in courses])
    return Alike(as_ratios(rows[0]))
