import itertools
import random
import re
from fractions import Fraction
from math import gcd

from everyfoe.errors import BadNumber, BadText, NotPlain, TooLarge
from everyfoe.quotients import Quotient, quotient_of, quotient_text
from tests.helper import CheckCase, fraction, pair

NO_ROWS = [None, 0, 1, [], [1], "1", (1, 0), (0,), (0, 0), (True,), (1, True), (1.0,), ("1",), ((1, 2),), (None,)]


def value_of(row, number):
    return sum((item * number ** k for k, item in enumerate(row)), Fraction(0))


def trimmed(items):
    while items and items[-1] == 0:
        items = items[:-1]
    return tuple(items)


def random_row(chance, size, least=0):
    items = [chance.randrange(-size, size + 1) for _ in range(chance.randrange(least, 5))]
    row = trimmed(items)
    return row if len(row) >= least else (1,) * least


def product(one, other):
    out = [0] * (len(one) + len(other))
    for i, a in enumerate(one):
        for j, b in enumerate(other):
            out[i + j] += a * b
    return trimmed(out)


def rest_of(one, other):
    one = [Fraction(item) for item in one]
    while len(one) >= len(other):
        factor = one[-1] / other[-1]
        for k in range(len(other)):
            one[len(one) - len(other) + k] -= factor * other[k]
        one = list(trimmed(one[:-1]))
    return one


def shared_degree(one, other):
    """The degree of the greatest common divisor, by Euclid's steps."""
    while other:
        one, other = other, rest_of(one, other)
    return len(one) - 1


class QuotientTest(CheckCase):
    def check_lowest(self, quotient):
        top, bottom = quotient.top, quotient.bottom
        for row in (top, bottom):
            self.assertIs(type(row), tuple)
            self.assertTrue(all(type(item) is int for item in row))
            self.assertTrue(not row or row[-1] != 0)
        if not top:
            self.assertEqual(bottom, (1,))
            return
        self.assertEqual(shared_degree(list(top), list(bottom)), 0)
        shared = 0
        for item in top + bottom:
            shared = gcd(shared, item)
        self.assertEqual(shared, 1)
        self.assertGreater(next(item for item in bottom if item), 0)

    def check_quotient(self, top, bottom, lowest):
        found = Quotient(top, bottom)
        self.check_lowest(found)
        self.assertEqual((found.top, found.bottom), lowest)

    def test_lowest_terms(self):
        self.check_quotient((2, 4), (6,), ((1, 2), (3,)))
        self.check_quotient((1, 0, -1), (1, 1), ((1, -1), (1,)))
        self.check_quotient((1,), (-2,), ((-1,), (2,)))
        self.check_quotient((1,), (0, -2, 1), ((-1,), (0, 2, -1)))
        self.check_quotient((0, 0, 2), (0, 4), ((0, 1), (2,)))
        self.check_quotient((0, 4), (0, 0, 2), ((2,), (0, 1)))
        self.check_quotient((), (0, -4), ((), (1,)))
        self.check_quotient((), (7,), ((), (1,)))
        self.check_quotient((-1, 1), (1, -1), ((-1,), (1,)))
        self.check_quotient((-6, 5, -1), (6, -2), ((-2, 1), (2,)))
        self.check_quotient((0, 0, 0, 5), (0, 0, 0, 10), ((1,), (2,)))
        self.assertEqual((Quotient((3, 6)).top, Quotient((3, 6)).bottom), ((3, 6), (1,)))
        self.assertEqual(Quotient((1,), bottom=(3,)).bottom, (3,))

    def test_common_rows(self):
        chance = random.Random(1)
        for size in (1, 3, 10 ** 40):
            for _ in range(200):
                shared = random_row(chance, size, 1)
                top, bottom = random_row(chance, size), random_row(chance, size, 1)
                one = Quotient(top, bottom)
                other = Quotient(product(top, shared), product(bottom, shared))
                self.check_lowest(one)
                self.assertEqual((one.top, one.bottom), (other.top, other.bottom))
                self.assertTrue(one == other)

    def test_rows_that_have_nothing_in_common(self):
        for number in [*range(-300, 0), *range(1, 300), 10 ** 40]:
            for top, bottom in [((0, 1), (number, 1)), ((0, 1), (number, 0, 1)), ((number, 1), (0, 1, 1)), ((1, 0, 1), (1 + number, 0, 1))]:
                found = Quotient(top, bottom)
                if value_of(bottom, 0) and len(top) == 2 and top[0] == 0 and number > 0:
                    self.assertEqual((found.top, found.bottom), (top, bottom))
                self.check_lowest(found)

    def test_long_rows(self):
        chance = random.Random(2)
        shared = tuple(chance.randrange(1, 10 ** 40) for _ in range(20))
        one = tuple(chance.randrange(1, 10 ** 40) for _ in range(20))
        other = tuple(chance.randrange(1, 10 ** 40) for _ in range(20))
        found = Quotient(product(one, shared), product(other, shared))
        self.assertTrue(found == Quotient(one, other))

    def test_values_that_are_no_rows(self):
        for value in NO_ROWS:
            self.check_error(BadNumber, ("top", value), Quotient, value)
            self.check_error(BadNumber, ("top", value), Quotient, value, "x")
            self.check_error(BadNumber, ("bottom", value), Quotient, (1,), value)
        self.check_error(BadNumber, ("bottom", ()), Quotient, (1,), ())
        self.check_error(BadNumber, ("bottom", ()), Quotient, (), ())

    def check_operators(self, one, other, places):
        number = isinstance(other, int)
        for place in places:
            a = one.at(pair(place))
            b = (other, 1) if number else other.at(pair(place))
            a, b = fraction(a), fraction(b)
            for found, goal in [(one + other, a + b), (one - other, a - b), (one * other, a * b), (-one, -a)]:
                self.check_lowest(found)
                self.assertEqual(found.at(pair(place)), pair(goal))
            if b != 0:
                self.check_lowest(one.over(other))
                self.assertEqual(one.over(other).at(pair(place)), pair(a / b))

    def test_operators(self):
        chance = random.Random(3)
        for size in (1, 5, 10 ** 40):
            for _ in range(60):
                one = Quotient(random_row(chance, size), random_row(chance, size, 1))
                other = Quotient(random_row(chance, size), random_row(chance, size, 1))
                places = [Fraction(k, 7) + 11 for k in range(30)]
                bottoms = product(one.bottom, other.bottom)
                places = [place for place in places if value_of(bottoms, place) != 0][:3]
                self.check_operators(one, other, places)
                self.check_operators(one, chance.randrange(-size, size + 1), places)

    def test_operators_plainly(self):
        half = Quotient((1,), (2,))
        letter = Quotient((0, 1))
        self.assertTrue(half + half == Quotient((1,)))
        self.assertTrue(letter - letter == Quotient(()))
        self.assertTrue(letter - 1 == Quotient((-1, 1)))
        self.assertTrue(letter + 0 == letter)
        self.assertTrue(letter * 0 == Quotient(()))
        self.assertTrue(-letter == Quotient((0, -1)))
        self.assertTrue(letter.over(letter) == Quotient((1,)))
        self.assertTrue(letter.over(-2) == Quotient((0, -1), (2,)))
        self.assertTrue(half.over(Quotient((1, -1))) == Quotient((1,), (2, -2)))
        self.assertTrue(Quotient((1,), (1, -1)) * Quotient((1, -1)) == Quotient((1,)))

    def test_equality(self):
        half = Quotient((1,), (2,))
        self.assertTrue(half == Quotient((2, 2), (4, 4)))
        self.assertFalse(half != Quotient((2, 2), (4, 4)))
        self.assertFalse(half == Quotient((1,), (3,)))
        self.assertFalse(half == Quotient((2,), (1,)))
        for value in [(1, 2), 1, None, "1/2", ((1,), (2,))]:
            self.assertFalse(half == value)
            self.assertFalse(Quotient((1,)) == value)

    def test_operators_change_nothing(self):
        one, other = Quotient((1, 2), (3, 4)), Quotient((5, 6), (7, 8))
        rows = (one.top, one.bottom, other.top, other.bottom)
        one + other, one - other, one * other, -one, one.over(other), one.at(1)
        self.assertEqual((one.top, one.bottom, other.top, other.bottom), rows)

    def test_over_nothing(self):
        for value in (0, Quotient(()), Quotient((), (5,))):
            self.check_error(BadNumber, ("bottom", ()), Quotient((1, 2)).over, value)

    def test_at(self):
        found = Quotient((1, 2), (3, 0, 1))
        self.assertEqual(found.at(1), (3, 4))
        for ratio in [(1, 2), (2, 4), (50, 100)]:
            self.assertEqual(found.at(ratio), (8, 13))
        self.assertEqual(found.at((-1, 2)), (0, 1))
        self.assertEqual(Quotient(()).at(5), (0, 1))
        self.assertEqual(Quotient((4,), (6,)).at(5), (2, 3))
        self.assertEqual(Quotient((0, 1)).at((10 ** 400, 3)), (10 ** 400, 3))

    def test_at_where_there_is_no_value(self):
        found = Quotient((1,), (0, -1, 2))
        for value in (0, (0, 3), (1, 2), (2, 4)):
            self.check_error(BadNumber, ("at", value), found.at, value)
        for value in (True, None, "1", 0.5, (1, 0), (1, -1), (1, 2, 3), [1, 2], (1, True)):
            self.check_error(BadNumber, ("at", value), found.at, value)


RATIO = r"(0|[1-9][0-9]*)(/[1-9][0-9]*)?"
TERM = rf"({RATIO}\*)?e(\^[2-6])?|{RATIO}"
TEXT = re.compile(rf"-?({TERM})([+-]({TERM}))*\Z")
# Each beginning of a text goes on with one of these, if it goes on at all.
MORE = ["", "0", "1", "e", "2", "*e"]


def first_bad(text):
    """The first column at which no text goes on, told by trying."""
    for end in range(len(text) + 1):
        if not any(TEXT.match(text[:end] + more) for more in MORE):
            return end
    return None if TEXT.match(text) else len(text) + 1


def plain_value(text, place):
    """The value of a text at a number, told by Python."""
    text = re.sub(r"[0-9]+", lambda found: f"Fraction({found.group()})", text.replace("^", "**"))
    text = re.sub(r"\*\*Fraction\(([0-9])\)", r"**\1", text)
    return eval(text, {"Fraction": Fraction, "e": place})


class QuotientOfTest(CheckCase):
    def test_terms_of_all_forms(self):
        for text, top, bottom in [
            ("0", (), (1,)), ("-0", (), (1,)), ("7", (7,), (1,)), ("-7/2", (-7,), (2,)), ("e", (0, 1), (1,)),
            ("-e", (0, -1), (1,)), ("e^2", (0, 0, 1), (1,)), ("e^6", (0,) * 6 + (1,), (1,)), ("3*e", (0, 3), (1,)),
            ("2/4*e^3", (0, 0, 0, 1), (2,)), ("1-e", (1, -1), (1,)), ("1/2+1/4*e^2-2/8*e^2", (1,), (2,)),
            ("-3*e+e", (0, -2), (1,)), ("e-e", (), (1,)), ("0*e^5", (), (1,)), ("0/9+1", (1,), (1,)),
            ("e^2+1/3-1/2*e", (2, -3, 6), (6,)), ("1/2+1/2", (1,), (1,)), ("e+e+e^2+e", (0, 3, 1), (1,)),
        ]:
            found = quotient_of(text)
            self.assertEqual((found.top, found.bottom), (top, bottom), text)

    def test_random_texts(self):
        chance = random.Random(5)
        for _ in range(500):
            terms = []
            for _ in range(chance.randrange(1, 9)):
                ratio = str(chance.randrange(30)) + chance.choice(["", f"/{chance.randrange(1, 30)}"])
                letter = chance.choice(["e", "e^2", "e^3", "e^4", "e^5", "e^6"])
                terms.append(chance.choice([ratio, letter, ratio + "*" + letter]))
            text = chance.choice(["", "-"]) + terms[0]
            for term in terms[1:]:
                text += chance.choice("+-") + term
            found = quotient_of(text)
            for place in (Fraction(1, 3), Fraction(-7, 2)):
                self.assertEqual(found.at(pair(place)), pair(plain_value(text, place)))
            self.assertEqual(len(found.bottom), 1)
            self.check_sign_off(text, chance)

    def check_sign_off(self, text, chance):
        """Signs put in, left out or changed: the column is the one found by
        trying."""
        for _ in range(6):
            at = chance.randrange(len(text) + 1)
            sign = chance.choice("0123 -+*/^ex\n")
            for wrong in (text[:at] + sign + text[at:], text[:at] + text[at + 1:], text[:at] + sign + text[at + 1:]):
                bad = first_bad(wrong)
                if bad is None:
                    quotient_of(wrong)
                else:
                    self.check_error(BadText, (1, bad), quotient_of, wrong)

    def test_first_wrong_column(self):
        for text, column in [
            ("", 1), ("-", 2), ("+", 1), ("--1", 2), ("+1", 1), (" 1", 1), ("1 ", 2), ("1+", 3), ("1+-e", 3), ("01", 2),
            ("00", 2), ("1/0", 3), ("1/02", 3), ("1/", 3), ("1/e", 3), ("2e", 2), ("2*", 3), ("2*3", 3), ("2**e", 3),
            ("e2", 2), ("e^", 3), ("e^1", 3), ("e^0", 3), ("e^7", 3), ("e^22", 4), ("e*2", 2), ("ee", 2), ("e^2^2", 4),
            ("E", 1), ("1\n", 2), ("\n", 1), ("1/2/3", 4), ("1-", 3), ("1.5", 2), ("1*e^", 5), ("1e", 2), ("0*", 3),
            ("10*e^2+0x", 9), ("\u0661", 1), ("1/\u0662", 3), ("e^\u0662", 3), ("x", 1), ("a:1", 1),
        ]:
            self.check_error(BadText, (1, column), quotient_of, text)

    def test_all_short_texts(self):
        for many in range(5):
            for signs in itertools.product("01e^*/-+2", repeat=many):
                text = "".join(signs)
                bad = first_bad(text)
                if bad is None:
                    self.assertEqual(quotient_of(text).at((1, 3)), pair(plain_value(text, Fraction(1, 3))))
                else:
                    self.check_error(BadText, (1, bad), quotient_of, text)

    def test_values_that_are_no_strings(self):
        for value in [None, 1, True, (1, 2), ["1"], b"1", Quotient((1,)), 1.5]:
            self.check_error(BadText, (0, 0), quotient_of, value)

    def test_long_integers(self):
        row = "9" * 4000
        self.assertEqual(quotient_of(row).top, (10 ** 4000 - 1,))
        self.assertEqual(quotient_of(f"1/{row}*e^2-e").bottom, (10 ** 4000 - 1,))
        for many in (4001, 4300, 4301, 6000):
            row = "1" * many
            for text in (row, "-" + row, "1/" + row, row + "*e", "1-e+2/" + row + "*e^3", row + "/7", "0*e+" + row):
                self.check_error(TooLarge, ("digits", many, 4000), quotient_of, text)
        self.check_error(TooLarge, ("digits", 4002, 4000), quotient_of, "1+" + "1" * 4002 + "/" + "1" * 4003 + "-" + "1" * 5000)
        self.check_error(TooLarge, ("digits", 4003, 4000), quotient_of, "1+" + "1" * 4000 + "/" + "1" * 4003 + "-" + "1" * 5000)
        self.check_error(BadText, (1, 5002), quotient_of, "1" * 5000 + "+ 1")
        self.check_error(BadText, (1, 5001), quotient_of, "1" * 5000 + "e")
        self.check_error(BadText, (1, 2), quotient_of, "0" * 5000)


class QuotientTextTest(CheckCase):
    def test_plain_polynomials(self):
        for top, bottom, text in [
            ((), (1,), "0"), ((1,), (1,), "1"), ((-1,), (1,), "-1"), ((3,), (6,), "1/2"), ((0, 1), (1,), "e"),
            ((0, -1), (1,), "-e"), ((1, -1), (1,), "1-e"), ((-1, 1), (2,), "-1/2+1/2*e"), ((0, 2), (1,), "2*e"),
            ((0, 0, 1), (1,), "e^2"), ((0, 0, 0, 0, 0, 0, -1), (1,), "-e^6"), ((1, 0, 2), (4,), "1/4+1/2*e^2"),
            ((2, 3, 4), (6,), "1/3+1/2*e+2/3*e^2"), ((0, 0, -3, 0, 1), (3,), "-e^2+1/3*e^4"), ((1, 1, 1), (1,), "1+e+e^2"),
            ((0, -2, 2), (2,), "-e+e^2"),
        ]:
            self.assertEqual(quotient_text(Quotient(top, bottom)), text)

    def test_texts_are_read_back(self):
        chance = random.Random(6)
        for size in (1, 4, 10 ** 40):
            for _ in range(200):
                items = [chance.choice([0, 1, -1, chance.randrange(-size, size + 1)]) for _ in range(chance.randrange(8))]
                found = Quotient(trimmed(items), (chance.randrange(1, size + 1),))
                self.assertTrue(quotient_of(quotient_text(found)) == found)

    def test_errors(self):
        large = 10 ** 4000
        for power in (7, 8, 9):
            self.check_error(TooLarge, ("power", power, 6), quotient_text, Quotient((0,) * power + (1,)))
            self.check_error(TooLarge, ("power", power, 6), quotient_text, Quotient((large,) * (power + 1), (3,)))
        self.check_error(NotPlain, ("bottom",), quotient_text, Quotient((1,), (1, 1)))
        self.check_error(NotPlain, ("bottom",), quotient_text, Quotient((0,) * 9 + (1,), (1, 1)))
        self.check_error(NotPlain, ("bottom",), quotient_text, Quotient((large,) * 9, (1, 3)))
        self.check_error(NotPlain, ("bottom",), quotient_text, Quotient((1,), (0, 1)))

    def test_digits(self):
        large = 10 ** 4000
        self.assertEqual(len(quotient_text(Quotient((large - 1, -large + 1)))), 8003)
        self.check_error(TooLarge, ("digits", 4001, 4000), quotient_text, Quotient((large,)))
        self.check_error(TooLarge, ("digits", 4001, 4000), quotient_text, Quotient((1, 0, -large)))
        self.check_error(TooLarge, ("digits", 4001, 4000), quotient_text, Quotient((1, 1), (large,)))
        self.check_error(TooLarge, ("digits", 5801, 4000), quotient_text, Quotient((large, 10 ** 5800, 1), (3,)))
        # In lowest terms each integer has few digits.
        self.assertEqual(quotient_text(Quotient((2 * large, 3 * large), (6 * large,))), "1/3+1/2*e")
        # Each of the integers of the row is longer than those of the text.
        low, high = 3 ** 5000, 2 ** 7000
        self.assertEqual(quotient_text(Quotient((low, high), (low * high,))), f"1/{high}+1/{low}*e")
