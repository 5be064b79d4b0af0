"""What a desk does in turn: edits, undo and redo, attempts and trials."""

import random
import unittest

from everyfoe.desk import Desk
from everyfoe.errors import BadName, FoeError, NoName, NotKept, NothingToRedo, NothingToUndo, TakenName
from tests.helper import CheckCase
from tests.test_desk_files import ECHO, FILE, MEEK, PRISON

KEPT = "echo mean 0 1 at most 3"
FAILED = "echo mean 0 1 at most 2"
SOFT = "state a\nplay * * c:1/2 d:1/2\n"


class Own(Exception):
    pass


def state_of(desk):
    """What a desk tells, but for what can be undone and done again."""
    told = []
    for name in desk.names():
        try:
            told.append((name, desk.get_plan(name).text, desk.get_plan(name).world.text, desk.get_plan(name).side))
        except NoName:
            told.append((name, desk.get_world(name).text))
    return (desk.lines(), desk.names(), desk.promises(), tuple(told))


def rows_back(desk):
    """All states that undo leads back to; the desk is left as it was."""
    found = []
    while True:
        try:
            desk.undo()
        except NothingToUndo:
            break
        found.append(state_of(desk))
    for _ in found:
        desk.redo()
    return found


def rows_ahead(desk):
    """All states that redo leads to; the desk is left as it was."""
    found = []
    while True:
        try:
            desk.redo()
        except NothingToRedo:
            break
        found.append(state_of(desk))
    for _ in found:
        desk.undo()
    return found


class HistoryTest(CheckCase):
    def test_undo_and_redo(self):
        desk = Desk(FILE)
        self.check_error(NothingToUndo, [], desk.undo)
        self.check_error(NothingToRedo, [], desk.redo)
        states = [state_of(desk)]
        acts = (
            lambda: desk.put("plan soft on pd for foe\n" + SOFT),
            lambda: desk.keep(KEPT),
            lambda: desk.rename("pd", "game"),
            lambda: desk.edit("game", 4, "pay c c 2 2"),
            lambda: desk.rename("echo", "mirror"),
            lambda: desk.release("mirror mean 0 1 at most 3"),
            lambda: desk.drop("mirror"),
            lambda: desk.put(""),
            lambda: desk.edit("meek", 3, ""),
        )
        for act in acts:
            self.assertIsNone(act())
            states.append(state_of(desk))
        for k in range(len(acts) - 1, -1, -1):
            self.assertIsNone(desk.undo())
            self.assertEqual(state_of(desk), states[k])
        self.check_error(NothingToUndo, [], desk.undo)
        for k in range(1, len(acts) + 1):
            self.assertIsNone(desk.redo())
            self.assertEqual(state_of(desk), states[k])
        self.check_error(NothingToRedo, [], desk.redo)
        desk.undo()
        desk.undo()
        desk.put("")
        self.check_error(NothingToRedo, [], desk.redo)
        self.assertEqual(rows_back(desk), states[-3::-1])

    def test_edits_that_change_nothing_are_edits(self):
        desk = Desk(FILE)
        for act in (lambda: desk.put(""), lambda: desk.edit("pd", 8, ""), lambda: desk.keep(KEPT), lambda: desk.keep(KEPT)):
            act()
        self.assertEqual(len(rows_back(desk)), 4)

    def test_errors_are_no_edits(self):
        desk = Desk(FILE)
        desk.keep(KEPT)
        desk.put("")
        desk.undo()
        before = (state_of(desk), rows_back(desk), rows_ahead(desk))
        calls = (
            (desk.put, "world"), (desk.put, None), (desk.edit, "pd", 0, ""), (desk.edit, "echo", 1, "x"),
            (desk.drop, "pd"), (desk.drop, "none"), (desk.rename, "pd", "echo"), (desk.rename, "pd", ""),
            (desk.keep, FAILED), (desk.keep, "x"), (desk.release, FAILED), (desk.edit, "pd", 4, "pay c c 9 9"),
            (desk.kept, "echo"), (desk.ask, "x"), (desk.get_plan, "pd"),
        )
        for call, *args in calls:
            with self.assertRaises(FoeError):
                call(*args)
            self.assertEqual((state_of(desk), rows_back(desk), rows_ahead(desk)), before)

    def test_drawn_histories(self):
        """A desk against lists of what it told, over more than a hundred acts."""
        for seed in range(6):
            chance = random.Random(seed)
            desk = Desk(FILE)
            past, future = [], []
            edits = 0
            while edits < 120:
                before = state_of(desk)
                kind = chance.random()
                try:
                    if kind < 0.2:
                        desk.undo()
                        future.append(before)
                        self.assertEqual(state_of(desk), past.pop())
                    elif kind < 0.3:
                        desk.redo()
                        past.append(before)
                        self.assertEqual(state_of(desk), future.pop())
                    else:
                        self.drawn_act(chance, desk)
                        past.append(before)
                        future = []
                        edits += 1
                except NothingToUndo:
                    self.assertEqual(past, [])
                except NothingToRedo:
                    self.assertEqual(future, [])
                except FoeError:
                    self.assertEqual(state_of(desk), before)
                self.assertEqual(desk.broken(), ())
            self.assertEqual(rows_back(desk), past[::-1])

    def drawn_act(self, chance, desk):
        """One act of any kind, or an attempt or trial of some."""
        names = [*desk.names(), "none"]
        name = chance.choice(names)
        kind = chance.randrange(10)
        if kind == 0:
            desk.put(f"plan x{chance.randint(1, 3)} on {name} for {chance.choice(('mine', 'foe'))}\n" + chance.choice((MEEK, SOFT, ECHO)))
        elif kind == 1:
            desk.put(f"world {name}\n" + PRISON.replace("3 3", f"{chance.randint(1, 4)} 3"))
        elif kind == 2:
            desk.drop(name)
        elif kind == 3:
            desk.rename(name, chance.choice(("a", "b", "c", "none")))
        elif kind == 4:
            desk.edit(name, chance.randint(1, 8), chance.choice(("", "play * * d:1", "pay c c 2 2", "go * * * * a:1")))
        elif kind == 5:
            desk.keep(f"{name} mean {chance.choice(('1 0', '0 1'))} at most {chance.randint(1, 5)}")
        elif kind == 6 and desk.promises():
            desk.release(chance.choice(desk.promises()))
        elif kind == 7:
            desk.keep(f"{name} zone 0 0 , 5 0 , 0 5 , {chance.randint(2, 5)} 4")
        elif kind == 8:
            desk.attempt(lambda inner: [self.drawn_act(chance, inner) for _ in range(chance.randint(0, 2))])
        else:
            before = state_of(desk)
            with desk as tried:
                try:
                    self.drawn_act(chance, tried)
                except FoeError:
                    pass
            self.assertEqual(state_of(desk), before)
            desk.put("")


class AttemptsTest(CheckCase):
    def setUp(self):
        self.desk = Desk(FILE)
        self.desk.keep(KEPT)
        self.desk.put("")
        self.desk.put("")
        self.desk.undo()
        self.before = self.all_of()

    def all_of(self):
        return (state_of(self.desk), rows_back(self.desk), rows_ahead(self.desk))

    def test_an_attempt_is_one_edit(self):
        desk = self.desk

        def act(inner):
            self.assertIs(inner, desk)
            inner.put("plan soft on pd for foe\n" + SOFT)
            inner.rename("soft", "softer")
            return "told"

        self.assertEqual(desk.attempt(act), "told")
        self.assertEqual(desk.names(), ("pd", "echo", "meek", "softer"))
        self.check_error(NothingToRedo, [], desk.redo)
        desk.undo()
        self.assertEqual(state_of(desk), self.before[0])
        self.assertEqual(rows_back(desk), self.before[1])
        desk.redo()
        self.assertEqual(desk.names(), ("pd", "echo", "meek", "softer"))

    def test_an_attempt_without_an_edit_is_an_edit(self):
        desk = self.desk
        self.assertIsNone(desk.attempt(lambda inner: None))
        self.assertEqual(rows_ahead(desk), [])
        self.assertEqual(rows_back(desk), [self.before[0], *self.before[1]])

    def test_promises_may_be_broken_within(self):
        desk = self.desk

        def act(inner):
            inner.edit("pd", 4, "pay c c 4 4")
            self.assertEqual([promise for promise, _ in inner.broken()], [KEPT])
            self.assertEqual(inner.ask("echo mean 0 1"), "4")
            inner.keep(half)
            inner.edit("pd", 4, "pay c c 2 2")
            return inner.broken()

        half = "echo mean 0 1 at most 5/2"
        self.assertEqual(desk.attempt(act), ())
        self.assertEqual(desk.promises(), (KEPT, half))

    def test_promises_are_looked_at_at_the_end(self):
        desk = self.desk

        def act(inner):
            inner.edit("pd", 4, "pay c c 4 4")
            return 1

        with self.assertRaises(NotKept) as caught:
            desk.attempt(act)
        self.assertEqual(caught.exception.promise, KEPT)
        self.assertEqual(self.all_of(), self.before)
        self.check_error(NoName, ["echo"], desk.attempt, lambda inner: inner.put("world echo\n" + PRISON))
        self.assertEqual(self.all_of(), self.before)

    def test_errors_take_all_back(self):
        desk = self.desk
        errors = (Own("x"), KeyError("x"), ZeroDivisionError(), BadName("x"), KeyboardInterrupt(), StopIteration(), AssertionError())
        for error in errors:
            def act(inner):
                inner.drop("echo")
                inner.put("plan soft on pd for foe\n" + SOFT)
                inner.undo()
                raise error

            for call in (desk.attempt, desk.trial):
                with self.assertRaises(BaseException) as caught:
                    call(act)
                self.assertIs(caught.exception, error)
                self.assertEqual(self.all_of(), self.before)
        with self.assertRaises(TypeError):
            desk.attempt(None)
        self.assertEqual(self.all_of(), self.before)

    def test_keep_raises_at_once(self):
        desk = self.desk

        def act(inner):
            self.check_error(NoName, ["none"], inner.keep, "none mean 0 1 at most 1")
            inner.keep(FAILED)
            self.check_error(TakenName, ["echo"], inner.drop, "pd")
            inner.release(FAILED)

        desk.attempt(act)
        self.assertEqual(state_of(desk), self.before[0])
        self.assertEqual(len(rows_back(desk)), len(self.before[1]) + 1)

    def test_undo_and_redo_within(self):
        desk = self.desk

        def act(inner):
            self.check_error(NothingToUndo, [], inner.undo)
            self.check_error(NothingToRedo, [], inner.redo)
            inner.drop("meek")
            inner.drop("echo")
            inner.undo()
            self.assertEqual(inner.names(), ("pd", "echo"))
            inner.redo()
            inner.undo()
            inner.undo()
            self.check_error(NothingToUndo, [], inner.undo)
            inner.redo()

        for call in (desk.attempt, desk.trial):
            names = desk.names()
            call(act)
            if call == desk.attempt:
                self.assertEqual(desk.names(), ("pd", "echo"))
                self.check_error(NothingToRedo, [], desk.redo)
                desk.undo()
            self.assertEqual(desk.names(), names)

    def test_a_trial_leaves_nothing(self):
        desk = self.desk

        def act(inner):
            self.assertIs(inner, desk)
            inner.edit("pd", 4, "pay c c 4 4")
            inner.drop("meek")
            self.assertEqual([promise for promise, _ in inner.broken()], [KEPT])
            return inner.ask("echo mean 0 1")

        self.assertEqual(desk.trial(act), "4")
        self.assertEqual(self.all_of(), self.before)
        with desk as tried:
            self.assertIs(tried, desk)
            act(tried)
            self.assertEqual(desk.names(), ("pd", "echo"))
        self.assertEqual(self.all_of(), self.before)
        with self.assertRaises(Own):
            with desk as tried:
                act(tried)
                raise Own("x")
        self.assertEqual(self.all_of(), self.before)

    def test_within_one_another(self):
        desk = self.desk
        seen = []

        def broken(inner):
            inner.edit("pd", 4, "pay c c 4 4")
            return len(inner.broken())

        def failing(inner):
            inner.drop("echo")
            raise Own("x")

        def outer(inner):
            inner.put("plan soft on pd for foe\n" + SOFT)
            seen.append(inner.attempt(broken))
            seen.append(len(inner.broken()))
            inner.undo()
            seen.append(len(inner.broken()))
            inner.redo()
            seen.append(inner.trial(lambda third: third.attempt(broken)))
            with self.assertRaises(Own):
                inner.attempt(failing)
            seen.append(inner.names())
            with inner as tried:
                tried.drop("soft")
                tried.attempt(broken)
                self.check_error(NothingToRedo, [], tried.redo)
                tried.undo()
                tried.undo()
                self.check_error(NothingToUndo, [], tried.undo)
            seen.append(inner.names())
            inner.undo()
            inner.undo()
            self.check_error(NothingToUndo, [], inner.undo)
            inner.redo()
            return "done"

        self.assertEqual(desk.attempt(outer), "done")
        names = ("pd", "echo", "meek", "soft")
        self.assertEqual(seen, [1, 1, 0, 1, names, names])
        self.assertEqual((desk.names(), desk.broken()), (names, ()))
        desk.undo()
        self.assertEqual(state_of(desk), self.before[0])

    def test_attempts_in_trials_look_at_no_promises(self):
        desk = self.desk

        def act(inner):
            inner.attempt(lambda third: third.edit("pd", 4, "pay c c 4 4"))
            inner.keep(FAILED)
            return [promise for promise, _ in inner.broken()]

        self.assertEqual(desk.trial(act), [KEPT, FAILED])
        self.assertEqual(self.all_of(), self.before)

    def test_acts_by_the_desk_itself(self):
        desk = self.desk
        desk.attempt(lambda inner: (desk.drop("meek"), inner.rename("echo", "mirror")))
        self.assertEqual((desk.names(), desk.promises()), (("pd", "mirror"), ("mirror mean 0 1 at most 3",)))
        desk.undo()
        self.assertEqual(state_of(desk), self.before[0])

    def test_two_desks_at_once(self):
        one = self.desk
        other = Desk(FILE)

        def act(inner):
            other.drop("meek")
            inner.drop("echo")
            raise Own("x")

        with self.assertRaises(Own):
            one.attempt(act)
        self.assertEqual(self.all_of(), self.before)
        self.assertEqual(other.names(), ("pd", "echo"))
        with one as first, other as second:
            first.drop("echo")
            second.drop("echo")
        self.assertEqual(other.names(), ("pd", "echo"))


if __name__ == "__main__":
    unittest.main()
