"""A desk: worlds, plans and promises under names, with edits that can be taken
back."""

from everyfoe.errors import BadName, BadText, NoName, NothingToRedo, NothingToUndo
from everyfoe.files import entries_of
from everyfoe.questions import answer_text, promise_of, question_of, witness_of
from everyfoe.shelves import (
    Shelf,
    broken_in,
    check_promises,
    item_of,
    with_entries,
    with_lines,
    with_name,
    with_promise,
    without_item,
    without_promise,
)
from everyfoe.texts import is_name


class Turn:
    """A shelf that was, or will be again, and the turn behind it in a row."""

    def __init__(self, shelf, rest):
        self.shelf = shelf
        self.rest = rest


class Now:
    """How a desk stands: its shelf, what can be undone, what can be done again,
    and whether this is within an attempt or a trial."""

    def __init__(self, shelf, past, future, inner):
        self.shelf = shelf
        self.past = past
        self.future = future
        self.inner = inner


class Frame:
    """How a desk stood ahead of a trial, and the trial that it stands in."""

    def __init__(self, now, outer):
        self.now = now
        self.outer = outer


def check_string(name):
    """Raise BadName unless a name is a string."""
    if not isinstance(name, str):
        raise BadName(name)


def check_text(text):
    """Raise BadText unless a text is a string."""
    if not isinstance(text, str):
        raise BadText(0, 0)


class Desk:
    """Worlds, plans and promises."""

    def __init__(self, text=""):
        shelf = with_entries(Shelf({}, ()), entries_of(text))
        self.now = Now(shelf, None, None, False)
        self.frame = None

    def change(self, shelf):
        """Take a shelf as the newest one: an edit."""
        now = self.now
        if not now.inner:
            check_promises(shelf)
        self.now = Now(shelf, Turn(now.shelf, now.past), None, now.inner)

    def put(self, text):
        """Put the items of a file to the desk."""
        self.change(with_entries(self.now.shelf, entries_of(text)))

    def edit(self, name, number, text):
        """Put lines in the place of one line of an item."""
        check_string(name)
        check_text(text)
        self.change(with_lines(self.now.shelf, name, number, text))

    def drop(self, name):
        """Take an item away."""
        check_string(name)
        self.change(without_item(self.now.shelf, name))

    def rename(self, name, new):
        """Give an item another name."""
        if not is_name(new):
            raise BadName(new)
        check_string(name)
        self.change(with_name(self.now.shelf, name, new))

    def keep(self, promise):
        """Make a promise."""
        self.change(with_promise(self.now.shelf, promise))

    def release(self, promise):
        """Take a promise back."""
        check_text(promise)
        self.change(without_promise(self.now.shelf, promise))

    def attempt(self, action):
        """Call a function with the desk. All that it does is one edit, or
        nothing if it fails."""
        before = self.now
        done = None
        try:
            self.now = Now(before.shelf, None, None, True)
            result = action(self)
            shelf = self.now.shelf
            self.now = before
            self.change(shelf)
            done = True
        finally:
            if done is None:
                self.now = before
        return result

    def trial(self, action):
        """Call a function with the desk, and take back all that it does."""
        with self as tried:
            return action(tried)

    def __enter__(self):
        self.frame = Frame(self.now, self.frame)
        self.now = Now(self.now.shelf, None, None, True)
        return self

    def __exit__(self, kind, value, trace):
        frame = self.frame
        self.now = frame.now
        self.frame = frame.outer

    def undo(self):
        """Take the last edit back."""
        now = self.now
        if now.past is None:
            raise NothingToUndo()
        self.now = Now(now.past.shelf, now.past.rest, Turn(now.shelf, now.future), now.inner)

    def redo(self):
        """Do again what was taken back last."""
        now = self.now
        if now.future is None:
            raise NothingToRedo()
        self.now = Now(now.future.shelf, Turn(now.shelf, now.past), now.future.rest, now.inner)

    def lines(self):
        """The text of the file."""
        items = self.now.shelf.shelved
        return "".join([items[name].head_line() + "\n" + items[name].whole_text() for name in items])

    def names(self):
        """The names of all items."""
        return tuple(list(self.now.shelf.shelved))

    def promises(self):
        """The texts of all promises."""
        return self.now.shelf.promises

    def get_world(self, name):
        """The World of a name."""
        check_string(name)
        item = item_of(self.now.shelf, name)
        if item.world is not None:
            raise NoName(name)
        return item.told

    def get_plan(self, name):
        """The Plan of a name."""
        check_string(name)
        item = item_of(self.now.shelf, name)
        if item.world is None:
            raise NoName(name)
        return item.told

    def kept(self, promise):
        """Whether a promise is kept, and what shows it if it is not."""
        witness = witness_of(self.now.shelf.shelved, promise_of(promise))
        return (witness is None, witness)

    def broken(self):
        """The promises that are not kept, with what shows it."""
        return tuple(broken_in(self.now.shelf))

    def ask(self, question):
        """The answer to a question, a text."""
        return answer_text(self.now.shelf.shelved, question_of(question))
