"""Shelves: the items and promises of a desk at one time. They never change;
what changes them makes another one."""

from everyfoe.errors import BadNumber, NoName, NotKept, TakenName
from everyfoe.exact import is_integer
from everyfoe.files import lines_in
from everyfoe.items import Item, settled
from everyfoe.questions import promise_of, witness_of


class Shelf:
    """Items by their names, in order, and the texts of promises, in order."""

    def __init__(self, items, promises):
        self.shelved = {name: item for name, item in items.items()}
        self.promises = tuple(promises)


def item_of(shelf, name):
    """The item of a name."""
    if name not in shelf.shelved:
        raise NoName(name)
    return shelf.shelved[name]


def with_entries(shelf, entries):
    """The shelf with the items of a text, which take the places of those with
    their names or come behind the last one."""
    items = {name: item for name, item in shelf.shelved.items()}
    heads = {}
    for name, entry in entries.items():
        items[name] = Item(name, entry.world, entry.side, entry.body, None)
        heads[name] = entry.head
    return Shelf(settled(items, heads), shelf.promises)


def with_lines(shelf, name, number, text):
    """The shelf with lines in the place of one line of an item."""
    item = item_of(shelf, name)
    body = list(item.body)
    if not is_integer(number) or number < 1 or number > len(body) + 1:
        raise BadNumber("line", number)
    items = {key: other for key, other in shelf.shelved.items()}
    body = body[:number - 1] + lines_in(text) + body[number:]
    items[name] = Item(name, item.world, item.side, body, None)
    return Shelf(settled(items, {name: 0}), shelf.promises)


def without_item(shelf, name):
    """The shelf without an item and the promises of its name."""
    item_of(shelf, name)
    for item in shelf.shelved.values():
        if item.world == name:
            raise TakenName(item.name)
    items = {key: item for key, item in shelf.shelved.items() if key != name}
    return Shelf(items, [promise for promise in shelf.promises if promise_name(promise) != name])


def promise_name(promise):
    """The name of the plan of a promise."""
    return promise.split(" ")[0]


def with_name(shelf, name, new):
    """The shelf with another name of an item."""
    item_of(shelf, name)
    if new in shelf.shelved:
        raise TakenName(new)
    items = {}
    for key, item in shelf.shelved.items():
        world = new if item.world == name else item.world
        items[new if key == name else key] = item.moved(new if key == name else key, world)
    promises = []
    for promise in shelf.promises:
        promises.append(new + promise[len(name):] if promise_name(promise) == name else promise)
    return Shelf(items, promises)


def with_promise(shelf, promise):
    """The shelf with a promise, which must be one that can be asked."""
    witness_of(shelf.shelved, promise_of(promise))
    if promise in shelf.promises:
        return shelf
    return Shelf(shelf.shelved, [*shelf.promises, promise])


def without_promise(shelf, promise):
    """The shelf without a promise."""
    if promise not in shelf.promises:
        raise NoName(promise)
    return Shelf(shelf.shelved, [other for other in shelf.promises if other != promise])


def broken_in(shelf):
    """The pairs of the promises that are not kept and of what shows it."""
    found = []
    for promise in shelf.promises:
        witness = witness_of(shelf.shelved, promise_of(promise))
        if witness is not None:
            found.append((promise, witness))
    return found


def check_promises(shelf):
    """Raise the error of the first promise that is not kept or cannot be
    asked."""
    for promise in shelf.promises:
        witness = witness_of(shelf.shelved, promise_of(promise))
        if witness is not None:
            raise NotKept(promise, witness)
