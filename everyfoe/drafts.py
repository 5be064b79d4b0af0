"""Drafts of built plans: what is to be told, and the text that tells it."""

from everyfoe.amounts import key_of, lifted
from everyfoe.errors import TooLarge, TooMany, Unlike
from everyfoe.exact import MOST_DIGITS
from everyfoe.plans import Plan
from everyfoe.quotients import quotient_text, text_digits

MOST_BUILT = 24


class Draft:
    """A plan with so many states that is being built.

    States are told by their indices. In each distribution the names are told
    as they stand in the text, or, where states are meant, as indices; its
    chances are kept as Quotients.
    """

    def __init__(self, many):
        self.states = [f"s{k + 1}" for k in range(many)]
        self.start = []
        self.lines = []

    def start_in(self, pairs):
        """Tell the distribution of the first state."""
        self.start = self.named(pairs)

    def play(self, state, board, pairs):
        """Tell the distribution of the move."""
        self.lines.append((f"play {self.states[state]} {board}", lifted_pairs(pairs)))

    def go(self, state, words, pairs):
        """Tell the distribution of the next state; words are those for board,
        move and signal."""
        self.lines.append((" ".join(["go", self.states[state], *words]), self.named(pairs)))

    def named(self, pairs):
        """The distribution with the names of the states."""
        return [(self.states[k], chance) for k, chance in lifted_pairs(pairs)]

    def finished(self, world, side):
        """The plan. Raises TooLarge if a chance can not be written."""
        lines = [("start", self.start), *self.lines]
        chances = {key_of(chance): chance for _, pairs in lines for _, chance in pairs}
        many = max([text_digits(chance) for chance in list(chances.values())])
        if many > MOST_DIGITS:
            raise TooLarge("digits", many, MOST_DIGITS)
        texts = {key: quotient_text(chance) for key, chance in chances.items()}
        rows = [" ".join(["state", *self.states])]
        for head, pairs in lines:
            words = [f"{name}:{texts[key_of(chance)]}" for name, chance in pairs]
            rows.append(" ".join([head, *words]))
        return Plan(world, "\n".join(rows) + "\n", side)


def lifted_pairs(pairs):
    """The distribution with Quotients."""
    return [(name, lifted(chance, True)) for name, chance in pairs]


def check_world(world, plans):
    """Raise Unlike unless all plans are of the same world as the given one."""
    for plan in plans:
        if plan.world.text != world.text:
            raise Unlike("world")


def check_sides(plans):
    """Raise Unlike unless all plans are of one side."""
    for plan in plans:
        if plan.side != plans[0].side:
            raise Unlike("side")


def check_many(many):
    """Raise TooMany if these are more states than a built plan may have."""
    if many > MOST_BUILT:
        raise TooMany("states", many, MOST_BUILT)
