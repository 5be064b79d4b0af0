"""Items of a desk: worlds and plans under names."""

from everyfoe.errors import BadText, NoName
from everyfoe.plans import Plan
from everyfoe.worlds import World


class Item:
    """A world or a plan under a name. body has the lines of its text; told is
    the World or the Plan, None as long as they are not read; answers are those
    of questions that were asked of it, by the words of the questions."""

    def __init__(self, name, world, side, body, told):
        self.name = name
        self.world = world
        self.side = side
        self.body = tuple(body)
        self.told = told
        self.answers = {}

    def head_line(self):
        """The head line."""
        if self.world is None:
            return f"world {self.name}"
        return f"plan {self.name} on {self.world} for {self.side}"

    def whole_text(self):
        """The text of the World or the Plan."""
        return "".join([line + "\n" for line in self.body])

    def moved(self, name, world):
        """The same item under another name, or with another name of its world."""
        found = Item(name, world, self.side, self.body, self.told)
        found.answers = self.answers
        return found


def read_item(item, world, head):
    """The item, read anew, for a plan on the World. Lines that are wrong are
    counted from the number of its head line on."""
    try:
        told = World(item.whole_text()) if item.world is None else Plan(world, item.whole_text(), item.side)
    except BadText as wrong:
        raise BadText(wrong.line + head, wrong.column)
    return Item(item.name, item.world, item.side, item.body, told)


def settled(items, heads):
    """The items, a dict by their names, after those that heads has are read
    anew: first the worlds, then the plans, also those on such a world. heads
    tells the numbers of their head lines."""
    found = {name: item for name, item in items.items()}
    worlds = {}
    for name, item in items.items():
        if item.world is None:
            if name in heads:
                found[name] = read_item(item, None, heads[name])
            worlds[name] = found[name].told
    for name, item in items.items():
        if item.world is not None:
            if item.world not in worlds:
                raise NoName(item.world)
            if name in heads or item.world in heads:
                found[name] = read_item(item, worlds[item.world], heads.get(name, 0))
    return found
