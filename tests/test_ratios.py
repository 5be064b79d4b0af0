import random
import re
from fractions import Fraction

from everyfoe.errors import BadNumber, BadText, TooLarge
from everyfoe.ratios import ratio_of, ratio_text
from tests.helper import CheckCase, fraction, pair

NO_RATIOS = [
    True, False, None, "", "1", "1/2", 1.0, [], [1, 2], [1], (), (1,), (1, 2, 3), (1, 0), (1, -1), (0, 0),
    (True, 1), (1, True), (1, 1.0), (1.0, 1), ("1", 2), (1, None), ((1, 2), 3), {1: 2}, b"1", Fraction(1, 2), object(),
]


def first_bad(text):
    """The first column at which no text of a ratio goes on, told by trying:
    a beginning goes on if a text of one more sign, or a digit, goes on."""
    whole = re.compile(r"-?[0-9]+(/[0-9]+)?\Z")
    for end in range(len(text) + 1):
        start = text[:end]
        if not any(whole.match(start + more) for more in ("", "0", "/0", "0/0")):
            return end
    return None if whole.match(text) else len(text) + 1


class RatioOfTest(CheckCase):
    def test_plain_texts(self):
        for text, ratio in [
            ("0", (0, 1)), ("-0", (0, 1)), ("-0/7", (0, 1)), ("0/3", (0, 1)), ("00", (0, 1)), ("7", (7, 1)),
            ("-7", (-7, 1)), ("6/4", (3, 2)), ("-6/4", (-3, 2)), ("007/0021", (1, 3)), ("-0012", (-12, 1)),
            ("5/1", (5, 1)), ("10/5", (2, 1)), ("000/001", (0, 1)), ("123456789012345678901/30", (123456789012345678901, 30)),
        ]:
            self.assertEqual(ratio_of(text), ratio, text)
            self.check_ratio(ratio_of(text))

    def test_values_that_are_no_strings(self):
        for value in [None, 1, True, (1, 2), [1], ["1"], b"1", {}, 1.5, object()]:
            self.check_error(BadText, (0, 0), ratio_of, value)

    def test_first_wrong_column(self):
        for text, column in [
            ("", 1), ("-", 2), ("/", 1), ("--1", 2), ("+1", 1), (" 1", 1), ("1 ", 2), ("1\n", 2), ("\n1", 1), ("-\n", 2),
            ("1/", 3), ("1/\n", 3), ("1/2\n", 4), ("1/-2", 3), ("1//2", 3), ("1/2/3", 4), ("-/2", 2), ("1-", 2), ("1.5", 2),
            ("a", 1), ("1a", 2), ("1/a", 3), ("12/34x", 6), ("1 /2", 2), ("1/ 2", 3), ("- 1", 2), ("1_0", 2), ("0x1", 2),
            ("\u0661", 1), ("1\u0661", 2), ("1/\u00b2", 3), ("\u00bd", 1), ("1\r", 2), ("1\t", 2), ("1e5", 2),
        ]:
            self.check_error(BadText, (1, column), ratio_of, text)

    def test_bottoms_of_zeros(self):
        for text, column in [("1/0", 3), ("-1/0", 4), ("0/0", 3), ("12/000", 4), ("-0/00", 4), ("1/" + "0" * 4000, 3)]:
            self.check_error(BadText, (1, column), ratio_of, text)

    def test_all_short_texts(self):
        texts = [""]
        for text in texts:
            bad = first_bad(text)
            if bad is not None:
                self.check_error(BadText, (1, bad), ratio_of, text)
            elif "/" in text and int(text.partition("/")[2]) == 0:
                self.check_error(BadText, (1, text.index("/") + 2), ratio_of, text)
            else:
                self.assertEqual(ratio_of(text), pair(Fraction(text)))
            if len(text) < 4:
                texts.extend([text + more for more in "-/03 \nx"])

    def test_long_rows(self):
        for many in (1, 639, 641, 3999, 4000):
            nines = "9" * many
            self.assertEqual(ratio_of(nines), (10 ** many - 1, 1))
            self.assertEqual(ratio_of("-" + nines), (1 - 10 ** many, 1))
            self.assertEqual(ratio_of("1/" + nines), (1, 10 ** many - 1))
            self.assertEqual(ratio_of("-" + nines + "/" + nines), (-1, 1))
        self.assertEqual(ratio_of("0" * 3999 + "1/" + "0" * 3999 + "2"), (1, 2))

    def test_rows_that_are_too_long(self):
        for many in (4001, 4300, 4301, 6000, 20000):
            for digit in "091":
                row = digit * many
                for text in (row, "-" + row, row + "/2", "1/" + row, "-1/" + row, row + "/0"):
                    self.check_error(TooLarge, ("digits", many, 4000), ratio_of, text)
        self.check_error(TooLarge, ("digits", 4001, 4000), ratio_of, "1" * 4001 + "/" + "1" * 5000)
        self.check_error(TooLarge, ("digits", 5000, 4000), ratio_of, "1" * 4000 + "/" + "1" * 5000)
        self.check_error(TooLarge, ("digits", 5000, 4000), ratio_of, "1" * 5000 + "/" + "1" * 4001)

    def test_the_first_of_two_errors(self):
        self.check_error(BadText, (1, 5002), ratio_of, "-" + "1" * 5000 + "x")
        self.check_error(BadText, (1, 5002), ratio_of, "1" * 5000 + "/")
        self.check_error(BadText, (1, 5002), ratio_of, "1" * 5000 + "/ 0")
        self.check_error(BadText, (1, 4), ratio_of, "1/0 ")
        self.check_error(TooLarge, ("digits", 4001, 4000), ratio_of, "1" * 4001 + "/0")


class RatioTextTest(CheckCase):
    def test_plain_ratios(self):
        for ratio, text in [
            (0, "0"), (7, "7"), (-7, "-7"), ((0, 5), "0"), ((6, 4), "3/2"), ((-6, 4), "-3/2"), ((4, 2), "2"),
            ((1, 3), "1/3"), ((-1, 1), "-1"), ((10, 100), "1/10"),
        ]:
            self.assertEqual(ratio_text(ratio), text)

    def test_texts_are_read_back(self):
        chance = random.Random(4)
        for size in (3, 10 ** 6, 10 ** 40, 10 ** 400):
            for _ in range(100):
                ratio = (chance.randrange(-size, size), chance.randrange(1, size))
                self.assertEqual(ratio_of(ratio_text(ratio)), pair(fraction(ratio)))
                self.assertEqual(ratio_text(ratio), str(fraction(ratio)))

    def test_values_that_are_no_ratios(self):
        for value in NO_RATIOS:
            self.check_error(BadNumber, ("ratio", value), ratio_text, value)

    def test_the_value_is_kept(self):
        value = [1, 2]
        with self.assertRaises(BadNumber) as caught:
            ratio_text(value)
        self.assertIs(caught.exception.number, value)

    def test_long_numbers(self):
        for many in (4000, 3999):
            top = 10 ** many - 1
            self.assertEqual(ratio_text(top), "9" * many)
            self.assertEqual(ratio_text(-top), "-" + "9" * many)
            self.assertEqual(ratio_text((1, top)), "1/" + "9" * many)
            self.assertEqual(ratio_text((10 ** (many - 1), 3)), "1" + "0" * (many - 1) + "/3")

    def test_numbers_that_are_too_long(self):
        for many in (4001, 4300, 4301, 4302, 5800, 20000):
            low = 10 ** (many - 1)
            high = 10 ** many - 1
            for ratio in (low, -low, high, (low, 3), (1, low), (-1, high), (7, low), (low * 3 + 1, 3 * 10 ** 3000)):
                self.check_error(TooLarge, ("digits", many, 4000), ratio_text, ratio)
        self.check_error(TooLarge, ("digits", 4001, 4000), ratio_text, 10 ** 4000)
        self.check_error(TooLarge, ("digits", 4500, 4000), ratio_text, (10 ** 4200, 3 * 10 ** 4499 + 1))
        self.check_error(TooLarge, ("digits", 4500, 4000), ratio_text, (3 * 10 ** 4499 + 1, 10 ** 4200))

    def test_digits_are_counted_in_lowest_terms(self):
        large = 10 ** 5800
        self.assertEqual(ratio_text((large, large)), "1")
        self.assertEqual(ratio_text((3 * large, 2 * large)), "3/2")
        self.assertEqual(ratio_text((0, large)), "0")
        self.assertEqual(ratio_text((large, 10 ** 5700)), "1" + "0" * 100)
