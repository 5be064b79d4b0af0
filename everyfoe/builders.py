"""Built plans: made out of a shorthand or of other plans."""

from everyfoe.drafts import Draft, check_many, check_sides, check_world, lifted_pairs
from everyfoe.errors import BadName, BadNumber, HasLetter
from everyfoe.exact import ONE, ZERO, as_ratio, is_integer, is_ratio, minus, plus
from everyfoe.groupings import Seen, coarsest, grouped
from everyfoe.pasts import PastText, all_pasts, given_signals, many_pasts
from everyfoe.plans import SIDES
from everyfoe.quotients import polynomial

MOST_DEPTH = 23
MOST_PLANS = 24
ANY = ("*", "*", "*")


def look_back(world, depth, text, side):
    """The plan that looks back at the signals of the last rounds."""
    if not is_integer(depth) or depth < 0 or depth > MOST_DEPTH:
        raise BadNumber("depth", depth)
    if side not in SIDES:
        raise BadName(side)
    signals = given_signals(world)
    check_many(many_pasts(len(signals), depth))
    pasts = all_pasts(signals, depth)
    moves = world.mine if side == "mine" else world.foe
    plays = PastText(world, depth, text, moves, pasts).plays
    places = {pasts[k]: k for k in range(len(pasts))}
    draft = Draft(len(pasts))
    draft.start_in([(0, ONE)])
    for k in range(len(pasts)):
        for board in world.boards:
            draft.play(k, board, plays[(k, board)])
        for signal in signals:
            seen = (*pasts[k], signal)
            draft.go(k, ("*", "*", signal), [(places[seen[max(0, len(seen) - depth):]], ONE)])
    return draft.finished(world, side)


def copy_plays(draft, plan, k, at):
    """Tell the draft in its state at what the plan plays in its state k."""
    for board in plan.world.boards:
        draft.play(at, board, plan.play(plan.states[k], board))


def copy_goes(draft, plan, k, at, ahead):
    """Tell the draft in its state at how the plan goes on in its state k. The
    copies of the plan's states that are meant stand from the index ahead on."""
    places = {plan.states[j]: ahead + j for j in range(len(plan.states))}
    if ahead + k != at:
        draft.go(at, ANY, [(ahead + k, ONE)])
    for words, pairs in plan.lines_of(plan.states[k]):
        draft.go(at, words, [(places[name], chance) for name, chance in pairs])


def copy_all(draft, plan, offset, ahead):
    """Tell the draft a copy of all states of a plan, from the index offset on,
    that goes on into the copy from the index ahead on."""
    for k in range(len(plan.states)):
        copy_plays(draft, plan, k, offset + k)
        copy_goes(draft, plan, k, offset + k, ahead)


def starting(plan, offset):
    """The start of a plan whose copy stands from this index on."""
    places = {plan.states[k]: offset + k for k in range(len(plan.states))}
    return [(places[state], chance) for state, chance in plan.start]


def followed(world, first, rounds, second):
    """The plan that plays the first one for so many rounds, then the second
    one from its start."""
    if not is_integer(rounds) or rounds < 0:
        raise BadNumber("rounds", rounds)
    check_sides([first, second])
    check_world(world, [first, second])
    width = len(first.states)
    behind = rounds * width
    check_many(behind + len(second.states))
    draft = Draft(behind + len(second.states))
    draft.start_in(starting(second if rounds == 0 else first, 0))
    for k in range(rounds - 1):
        copy_all(draft, first, k * width, (k + 1) * width)
    if rounds > 0:
        for k in range(width):
            copy_plays(draft, first, k, behind - width + k)
            draft.go(behind - width + k, ANY, starting(second, behind))
    copy_all(draft, second, behind, behind)
    return draft.finished(world, second.side)


def checked_chances(plans, chances):
    """The chances of mixed plans as ratios in lowest terms."""
    if not isinstance(chances, (list, tuple)) or len(chances) != len(plans):
        raise BadNumber("chances", chances)
    whole = ZERO
    for chance in chances:
        if not is_ratio(chance) or as_ratio(chance)[0] < 0:
            raise BadNumber("chance", chance)
        whole = plus(whole, as_ratio(chance))
    if whole != ONE:
        raise BadNumber("chances", chances)
    return [as_ratio(chance) for chance in chances]


def mixed(world, plans, chances):
    """The plan that draws one of the plans ahead of the first round."""
    if len(plans) == 0 or len(plans) > MOST_PLANS:
        raise BadNumber("plans", len(plans))
    ratios = checked_chances(plans, chances)
    check_sides(plans)
    check_world(world, plans)
    many = sum([len(plan.states) for plan in plans])
    check_many(many)
    draft = Draft(many)
    start = []
    offset = 0
    for plan, ratio in zip(plans, ratios):
        if ratio != ZERO:
            factor = polynomial([ratio])
            start = start + [(k, chance * factor) for k, chance in lifted_pairs(starting(plan, offset))]
        copy_all(draft, plan, offset, offset)
        offset = offset + len(plan.states)
    draft.start_in(start)
    return draft.finished(world, plans[0].side)


def trembled(world, plan):
    """The plan whose moves are drawn without care with chance e."""
    check_world(world, [plan])
    if plan.lettered:
        raise HasLetter()
    moves = world.mine if plan.side == "mine" else world.foe
    draft = Draft(len(plan.states))
    draft.start_in(starting(plan, 0))
    for k in range(len(plan.states)):
        for board in world.boards:
            chances = {move: chance for move, chance in plan.play(plan.states[k], board)}
            draft.play(k, board, [(move, shaken(chances.get(move, ZERO), len(moves))) for move in moves])
        copy_goes(draft, plan, k, k, 0)
    return draft.finished(world, plan.side)


def shaken(chance, many):
    """The chance (1 - e) * chance + e / many."""
    return polynomial([chance, minus((1, many), chance)])


class Least:
    """The coarsest stable grouping of the states of a plan, and the plan with
    one state for each group."""

    def __init__(self, groups, plan):
        self.groups = groups
        self.plan = plan


def least(world, plan):
    """The least plan that does what the plan does."""
    check_world(world, [plan])
    seen = Seen(plan)
    group_of = coarsest(seen)
    many = max(list(group_of.values())) + 1
    groups = [tuple([state for state in seen.states if group_of[state] == k]) for k in range(many)]
    draft = Draft(many)
    draft.start_in(grouped(plan.start, group_of))
    for k in range(many):
        state = groups[k][0]
        for board in world.boards:
            draft.play(k, board, plan.play(state, board))
        for words, pairs in seen.table[state].items():
            draft.go(k, words, grouped(pairs, group_of))
    return Least(tuple(groups), draft.finished(world, plan.side))
