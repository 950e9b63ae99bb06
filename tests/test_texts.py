import unittest
from fractions import Fraction

from nightbook.errors import NoText
from nightbook.texts import read_nights, read_number, read_ratio, shown_nights, shown_ratio
from tests.oddities import NO_WHOLES

NO_NUMBERS = ["", "00", "01", "007", "0000000000", "12345678901", "-1", "+1", " 1", "1 ", "1_0", "a", "1a", "1.0",
              "1e3",
              "0x1", "\n", "1\n", "--", "/", "1 2", "10000000000"]


def figures(number):
    """The figures of a number, however many."""
    found = []
    while number:
        found.append("0123456789"[number % 10])
        number //= 10
    return "".join(reversed(found)) or "0"


class ReadNumberTest(unittest.TestCase):
    def test_numbers(self):
        for number in [0, 1, 7, 10, 99, 100, 12345, 10 ** 9, 10 ** 9 + 1, 9999999999, 1000000000]:
            self.assertEqual(read_number(str(number)), number)
            self.assertIs(type(read_number(str(number))), int)

    def test_others(self):
        for text in NO_NUMBERS + ["1/2", "3-7"]:
            self.assertRaises(NoText, read_number, text)
        for code in range(128):
            if chr(code) not in "0123456789":
                for text in (chr(code), "1" + chr(code), chr(code) + "1"):
                    self.assertRaises(NoText, read_number, text)

    def test_very_long_ones(self):
        self.assertRaises(NoText, read_number, "1" * 5000)
        self.assertRaises(NoText, read_ratio, "1" * 5000)
        self.assertRaises(NoText, read_ratio, "1/" + "3" * 5000)
        self.assertRaises(NoText, read_nights, "1-" + "3" * 5000)


class ReadRatioTest(unittest.TestCase):
    def test_ratios(self):
        for text, told in [("0", (0, 1)), ("2", (2, 1)), ("1/20", (1, 20)), ("3/2", (3, 2)), ("1/2", (1, 2)),
                           ("9999999999", (9999999999, 1)), ("9999999999/9999999998", (9999999999, 9999999998)),
                           ("1/9999999999", (1, 9999999999))]:
            self.assertEqual(read_ratio(text), told)
            self.assertIs(type(read_ratio(text)), tuple)

    def test_not_in_lowest_terms_or_with_the_bottom_1(self):
        for text in ["2/4", "0/2", "0/1", "1/1", "5/1", "6/3", "10/100", "1/0", "0/0", "100/10"]:
            self.assertRaises(NoText, read_ratio, text)

    def test_others(self):
        for text in NO_NUMBERS + ["1/", "/2", "1//2", "1/2/3", "01/2", "1/02", "1/ 2", " 1/2", "-1/2", "1/-2",
                                  "1/12345678901",
                                  "3-7", "a/b"]:
            self.assertRaises(NoText, read_ratio, text)

    def test_all_small_ones(self):
        for top in range(0, 25):
            for bottom in range(0, 25):
                text = f"{top}/{bottom}"
                if bottom >= 2 and Fraction(top, bottom).denominator == bottom:
                    self.assertEqual(read_ratio(text), (top, bottom))
                else:
                    self.assertRaises(NoText, read_ratio, text)


class ReadNightsTest(unittest.TestCase):
    def test_nights(self):
        for text, told in [("3-7", (3, 7)), ("7-3", (7, 3)), ("0-0", (0, 0)), ("0-400", (0, 400)), ("5-5", (5, 5)),
                           ("9999999999-0", (9999999999, 0))]:
            self.assertEqual(read_nights(text), told)
            self.assertIs(type(read_nights(text)), tuple)

    def test_others(self):
        for text in NO_NUMBERS + ["3", "0", "3-", "-7", "3--7", "3-7-9", "03-7", "3-07", "3 -7", "3- 7", "3/7", "a-b",
                                  "-",
                                  "3-12345678901", "1/2-3"]:
            self.assertRaises(NoText, read_nights, text)


class WhateverTest(unittest.TestCase):
    def test_things_of_every_other_kind(self):
        for read in (read_number, read_ratio, read_nights):
            for thing in NO_WHOLES + [5, 0, -1, ["1"], ("3", "7"), (3, 7), b"3-7", ["3-7"]]:
                if thing.__class__ != str or read == read_nights or thing not in ("1", "12"):
                    self.assertRaises(NoText, read, thing)


class ShownTest(unittest.TestCase):
    def test_ratios(self):
        for ratio, text in [((0, 1), "0"), ((2, 1), "2"), ((1, 20), "1/20"), ((3, 2), "3/2"), ((10 ** 9, 1), "1000000000")]:
            self.assertEqual(shown_ratio(ratio), text)

    def test_nights(self):
        for nights, text in [((3, 7), "3-7"), ((0, 0), "0-0"), ((7, 3), "7-3"), ((0, 400), "0-400")]:
            self.assertEqual(shown_nights(nights), text)

    def test_however_many_figures(self):
        for many in list(range(1, 60)) + [299, 300, 4299, 4300, 4301, 5000, 9000]:
            for number in (10 ** many, 10 ** many - 1, 7 * 10 ** (many - 1) + 5, 10 ** many + 3):
                self.assertEqual(shown_ratio((number, 1)), figures(number))
                self.assertEqual(shown_ratio((1, number + 1)), "1/" + figures(number + 1))
                if many <= 300:
                    self.assertEqual(shown_nights((number, 0)), figures(number) + "-0")

    def test_all_figures_stand_in_their_order(self):
        number = 0
        for place in range(700):
            number = number * 10 + (place * place * 7 + place + 1) % 10
            self.assertEqual(shown_ratio((number, 1)), figures(number))
            self.assertEqual(shown_nights((number, 10 ** 18 + place)),
                             figures(number) + "-" + figures(10 ** 18 + place))

    def test_what_is_read_is_shown_by_the_same_text(self):
        for text in ["0", "1", "10", "1/2", "3/2", "99/100", "9999999999", "9999999999/10", "7/9999999998"]:
            self.assertEqual(shown_ratio(read_ratio(text)), text)
        for text in ["0-0", "3-7", "7-3", "9999999999-1", "10-400"]:
            self.assertEqual(shown_nights(read_nights(text)), text)
        for top in range(0, 30):
            for bottom in range(1, 30):
                ratio = (Fraction(top, bottom).numerator, Fraction(top, bottom).denominator)
                self.assertEqual(read_ratio(shown_ratio(ratio)), ratio)


if __name__ == "__main__":
    unittest.main()
