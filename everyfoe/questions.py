"""Questions and promises: texts about a plan, and the answers to them."""

from everyfoe.courses import Course
from everyfoe.errors import BadText, NoName
from everyfoe.events import Always, greatest_chance, greatest_number
from everyfoe.exact import ZERO, order
from everyfoe.leads import Gaining, lead
from everyfoe.means import greatest_mean
from everyfoe.polygons import polygon
from everyfoe.ratios import ratio_text
from everyfoe.texts import is_name, ratio_word
from everyfoe.zones import Zone

KINDS = ("mean", "lead", "chance", "number")
MOST_POINTS = 8


class Question:
    """What is asked of a plan: its name, the kind, and what that needs: a
    direction, an event, or the points of a zone; bound is what a promise says
    that it is at most, or None."""

    def __init__(self, name, kind, about, bound):
        self.name = name
        self.kind = kind
        self.about = about
        self.bound = bound


class Reader:
    """Reads the words of a text one by one."""

    def __init__(self, text):
        if not isinstance(text, str):
            raise BadText(0, 0)
        self.words = text.split(" ")
        self.place = 0

    def wrong(self):
        """The column of the next word."""
        return self.place + 1

    def is_done(self):
        return self.place >= len(self.words)

    def next_is(self, word):
        """Whether the next word is this one."""
        return not self.is_done() and self.words[self.place] == word

    def take(self, known):
        """The next word, one of these."""
        if self.is_done() or self.words[self.place] not in known:
            raise BadText(1, self.wrong())
        return self.taken()

    def taken(self):
        """The next word, whatever it is."""
        self.place = self.place + 1
        return self.words[self.place - 1]

    def take_name(self, free):
        """The next word, a name, or one of the words that are free."""
        if self.is_done() or not (is_name(self.words[self.place]) or self.words[self.place] in free):
            raise BadText(1, self.wrong())
        return self.taken()

    def take_ratio(self):
        """The ratio of the next word."""
        ratio = None if self.is_done() else ratio_word(self.words[self.place])
        if ratio is None:
            raise BadText(1, self.wrong())
        self.taken()
        return ratio

    def take_end(self):
        """Raise BadText if there is one more word."""
        if not self.is_done():
            raise BadText(1, self.wrong())

    def take_direction(self):
        """The two ratios of a direction."""
        first = self.take_ratio()
        column = self.wrong()
        second = self.take_ratio()
        if first == ZERO and second == ZERO:
            raise BadText(1, column)
        return (first, second)

    def take_marks(self):
        """The marks of an event, with the word or between them."""
        marks = [self.take_mark()]
        while self.next_is("or"):
            self.taken()
            marks.append(self.take_mark())
        return tuple(marks)

    def take_mark(self):
        board = self.take_name(("*",))
        mine = self.take_name(("*",))
        return (board, mine, self.take_name(("*",)))

    def take_points(self):
        """The points of a zone, with commas between them."""
        points = [(self.take_ratio(), self.take_ratio())]
        while len(points) < MOST_POINTS and self.next_is(","):
            self.taken()
            points.append((self.take_ratio(), self.take_ratio()))
        return tuple(points)


def promise_of(text):
    """The Question of a promise."""
    reader = Reader(text)
    name = reader.take_name(())
    kind = reader.take((*KINDS, "zone"))
    if kind == "zone":
        question = Question(name, kind, reader.take_points(), None)
    else:
        about = taken_about(reader, kind)
        reader.take(("at",))
        reader.take(("most",))
        question = Question(name, kind, about, reader.take_ratio())
    reader.take_end()
    return question


def question_of(text):
    """The Question of a text that asks."""
    reader = Reader(text)
    name = reader.take_name(())
    kind = reader.take((*KINDS, "polygon"))
    about = None if kind == "polygon" else taken_about(reader, kind)
    reader.take_end()
    return Question(name, kind, about, None)


def taken_about(reader, kind):
    """The direction or the event that a kind needs."""
    return reader.take_direction() if kind in ("mean", "lead") else reader.take_marks()


def asked(items, question):
    """The answer to a question, an object of the module that tells it. Each
    answer is kept at the item."""
    item = items.get(question.name)
    if item is None or item.world is None:
        raise NoName(question.name)
    kind = "polygon" if question.kind == "zone" else question.kind
    key = (kind,) if kind == "polygon" else (kind, question.about)
    if key not in item.answers:
        item.answers[key] = answer_to(Course(item.told), kind, question.about)
    return item.answers[key]


def answer_to(course, kind, about):
    """The answer to a question of a kind."""
    if kind == "mean":
        return greatest_mean(course, about)
    if kind == "lead":
        return lead(course, about)
    if kind == "chance":
        return greatest_chance(course, about)
    if kind == "number":
        return greatest_number(course, about)
    return polygon(course)


def witness_of(items, question):
    """What shows that a promise is not kept, or None if it is kept."""
    answer = asked(items, question)
    if question.kind == "zone":
        return witness_outside(answer, Zone(question.about))
    if isinstance(answer, (Gaining, Always)):
        return answer
    number = answer.worth if question.kind == "mean" else answer.number
    if order(number, question.bound) <= 0:
        return None
    return answer.run if question.kind == "lead" else answer.choice


def witness_outside(found, zone):
    """A choice whose means are outside of a zone, or None."""
    for corner, choice in zip(found.corners, found.choices):
        if corner not in zone:
            return choice
    return None


def answer_text(items, question):
    """The answer to a question as a text."""
    answer = asked(items, question)
    if question.kind == "polygon":
        return ", ".join([f"{ratio_text(one)} {ratio_text(other)}" for one, other in answer.corners])
    if isinstance(answer, (Gaining, Always)):
        return "without end"
    return ratio_text(answer.worth if question.kind == "mean" else answer.number)
