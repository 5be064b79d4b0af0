"""Texts of files: items, each begun by a head line."""

from everyfoe.errors import BadText
from everyfoe.plans import SIDES
from everyfoe.texts import is_name, words_of

HEADS = ("world", "plan")


class Entry:
    """An item of a text: its name, for a plan the name of its world and its
    side, the number of its head line, and the lines behind that."""

    def __init__(self, name, world, side, head):
        self.name = name
        self.world = world
        self.side = side
        self.head = head
        self.body = []


def entries_of(text):
    """The items of a text, a dict by their names, in order."""
    rows = words_of(text)
    found = {}
    entry = None
    for k in range(len(rows)):
        if rows[k][0] in HEADS:
            entry = read_head(rows[k], k + 1, found)
            found[entry.name] = entry
        elif entry is None:
            raise BadText(k + 1, 1)
        else:
            entry.body.append(" ".join(rows[k]))
    return found


def read_head(words, line, seen):
    """The item that begins with a head line. seen has the names of those
    ahead of it."""
    if len(words) < 2 or not is_name(words[1]) or words[1] in seen:
        raise BadText(line, 2)
    if words[0] == "world":
        check_end(words, line, 2)
        return Entry(words[1], None, None, line)
    check_word(words, line, 2, ("on",))
    if len(words) < 4 or not is_name(words[3]):
        raise BadText(line, 4)
    check_word(words, line, 4, ("for",))
    check_word(words, line, 5, SIDES)
    check_end(words, line, 6)
    return Entry(words[1], words[3], words[5], line)


def check_word(words, line, at, known):
    """Raise BadText unless the word at this index is one of these."""
    if len(words) <= at or words[at] not in known:
        raise BadText(line, at + 1)


def check_end(words, line, many):
    """Raise BadText if there are more words."""
    if len(words) > many:
        raise BadText(line, many + 1)


def lines_in(text):
    """The lines of a text."""
    return [" ".join(words) for words in words_of(text)]
