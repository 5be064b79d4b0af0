"""Texts of lines and words: how they are cut and read word by word."""

from everyfoe.errors import BadNumber, BadText, FoeError, TooLarge
from everyfoe.exact import DIGITS, MOST_DIGITS, ONE, ZERO, as_ratio, digits_of, is_ratio, order
from everyfoe.quotients import Quotient, is_constant, quotient_of
from everyfoe.ratios import ratio_of, ratio_text
from everyfoe.signs import is_chance

LETTERS = "abcdefghijklmnopqrstuvwxyz"
MOST_LETTERS = 12


def words_of(text):
    """The words of each line of a text."""
    if not isinstance(text, str):
        raise BadText(0, 0)
    lines = text.split("\n")
    if lines[-1] == "":
        lines = lines[:-1]
    return [line.split(" ") for line in lines]


def is_name(word):
    """Whether the value is a NAME."""
    if not isinstance(word, str) or word == "" or len(word) > MOST_LETTERS:
        return False
    if word[0] not in LETTERS:
        return False
    return all([character in LETTERS or character in DIGITS for character in word])


def ratio_word(word):
    """The ratio that ratio_of takes from a word, or None."""
    try:
        return ratio_of(word)
    except FoeError:
        return None


def chance_word(word):
    """The quotient of a CHANCE, or None."""
    try:
        chance = quotient_of(word)
    except FoeError:
        return None
    return chance if is_chance(chance) else None


def check_head(words, line, heads):
    """Raise BadText unless the line begins with one of these words."""
    if words[0] not in heads:
        raise BadText(line, 1)


def read_names(words, line, most):
    """The names behind the first word: one to most, no two equal."""
    seen = {}
    for k in range(1, len(words)):
        if k > most or not is_name(words[k]) or words[k] in seen:
            raise BadText(line, k + 1)
        seen[words[k]] = True
    if not seen:
        raise BadText(line, 2)
    return tuple(words[1:])


def read_conditions(words, line, tables):
    """The values of the words behind the first one, each looked up in its
    table."""
    found = []
    for k in range(len(tables)):
        if k + 1 >= len(words) or words[k + 1] not in tables[k]:
            raise BadText(line, k + 2)
        found.append(tables[k][words[k + 1]])
    return found


def read_distribution(words, line, start, names):
    """The pairs (name, Quotient) of the words from the index start on. names
    is a dict of the names that may stand there, or None for all."""
    found = {}
    for k in range(start, len(words)):
        name, _, word = words[k].partition(":")
        fits = is_name(name) if names is None else name in names
        chance = chance_word(word) if fits and name not in found else None
        if chance is None:
            raise BadText(line, k + 1)
        found[name] = chance
    if not found or not is_whole(list(found.values())):
        raise BadText(line, len(words) + 1)
    return list(found.items())


def is_whole(chances):
    """Whether the quotients add up to 1."""
    total = Quotient(())
    for chance in chances:
        total = total + chance
    return total == Quotient((1,))


def starred(names):
    """A dict of the names to those that they fit: each fits itself, and the
    word * fits all."""
    table = {name: (name,) for name in names}
    table["*"] = tuple(names)
    return table


def in_order(pairs, names):
    """The pairs (name, chance) in the order of the names."""
    chances = {name: chance for name, chance in pairs}
    return tuple([(name, chances[name]) for name in names if name in chances])


def is_lettered(pairs):
    """Whether some chance of a distribution is not constant."""
    return any([not is_constant(chance) for _, chance in pairs])


def told(pairs, lettered):
    """The distribution with Quotients if the object is lettered, else with
    ratios."""
    if lettered:
        return tuple(pairs)
    return tuple([(name, chance.at(0)) for name, chance in pairs])


def is_inner(ratio):
    """Whether the value is a ratio strictly between 0 and 1."""
    return is_ratio(ratio) and order(ZERO, as_ratio(ratio)) < 0 < order(ONE, as_ratio(ratio))


def check_inner(ratio):
    """Raise BadNumber unless the value may stand for e."""
    if not is_inner(ratio):
        raise BadNumber("e", ratio)


def settled_word(word, ratio):
    """A pair: a word NAME:CHANCE with e = ratio, and the greatest number of
    digits that was put in, 0 if the chance is constant."""
    name, _, text = word.partition(":")
    chance = quotient_of(text)
    if is_constant(chance):
        return word, 0
    value = chance.at(ratio)
    many = max(digits_of(value[0]), digits_of(value[1]))
    if many > MOST_DIGITS:
        return word, many
    return name + ":" + ratio_text(value), many


def settled_text(text, starts, ratio):
    """The text with e = ratio in all distributions. starts tells for the first
    word of a line at which index its distribution begins."""
    lines = []
    most = 0
    for words in words_of(text):
        start = starts.get(words[0], len(words))
        pairs = [settled_word(word, ratio) for word in words[start:]]
        most = max([most] + [many for _, many in pairs])
        lines.append(words[:start] + [word for word, _ in pairs])
    if most > MOST_DIGITS:
        raise TooLarge("digits", most, MOST_DIGITS)
    return "\n".join([" ".join(words) for words in lines]) + ("\n" if text.endswith("\n") else "")
