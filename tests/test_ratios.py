import random
import unittest
from fractions import Fraction

from nightbook.errors import NoNumber
from nightbook.ratios import is_chance, is_ratio, minus, plus, ratio, times, total, under
from tests.oddities import NO_WHOLES

HUGE = 10 ** 299 + 7
SMALL = [ratio(top, bottom) for top in range(-5, 6) for bottom in range(1, 6)]


def pair(number):
    return (number.numerator, number.denominator)


def worth(one):
    return Fraction(one[0], one[1])


def long_ratios(seed, many):
    source = random.Random(seed)
    bound = 10 ** 300 - 1
    return [pair(Fraction(source.randint(-bound, bound), source.randint(1, bound))) for place in range(many)]


class RatioTest(unittest.TestCase):
    def test_examples(self):
        self.assertEqual(ratio(3, -6), (-1, 2))
        self.assertEqual(ratio(0), (0, 1))
        self.assertEqual(ratio(2), (2, 1))

    def test_bottom_is_one_where_left_out(self):
        for top in (-7, -1, 0, 1, 2, 400, HUGE, -HUGE):
            self.assertEqual(ratio(top), (top, 1))
            self.assertEqual(ratio(top, 1), (top, 1))

    def test_arguments_by_name(self):
        self.assertEqual(ratio(top=4, bottom=6), (2, 3))
        self.assertEqual(ratio(bottom=-6, top=4), (-2, 3))

    def test_nought_is_one_tuple(self):
        for bottom in (1, 2, -1, -9, 100, HUGE, -HUGE):
            self.assertEqual(ratio(0, bottom), (0, 1))

    def test_signs(self):
        self.assertEqual(ratio(4, 6), (2, 3))
        self.assertEqual(ratio(-4, 6), (-2, 3))
        self.assertEqual(ratio(4, -6), (-2, 3))
        self.assertEqual(ratio(-4, -6), (2, 3))
        self.assertEqual(ratio(-6, -3), (2, 1))

    def test_all_small_ones(self):
        for top in range(-30, 31):
            for bottom in list(range(-30, 0)) + list(range(1, 31)):
                told = ratio(top, bottom)
                self.assertEqual(told, pair(Fraction(top, bottom)))
                self.assertIs(is_ratio(told), True)
                self.assertIs(type(told), tuple)

    def test_very_many_figures(self):
        self.assertEqual(ratio(HUGE * 6, HUGE * -4), (-3, 2))
        self.assertEqual(ratio(-HUGE, -HUGE), (1, 1))
        self.assertEqual(ratio(10 ** 299, 10 ** 298 * 4), (5, 2))
        self.assertEqual(ratio(HUGE, HUGE + 1), (HUGE, HUGE + 1))
        source = random.Random(11)
        for turn in range(100):
            top, bottom = source.randint(-10 ** 300, 10 ** 300), source.randint(1, 10 ** 300)
            sign = source.choice([1, -1])
            self.assertEqual(ratio(top, sign * bottom), pair(Fraction(top, sign * bottom)))

    def test_consecutive_fibonacci_numbers(self):
        one, other = 1, 1
        while other < 10 ** 300:
            one, other = other, one + other
        self.assertEqual(ratio(other, one), (other, one))
        self.assertEqual(ratio(other * HUGE, one * -HUGE), (-other, one))

    def test_refuses_what_is_no_whole_number(self):
        for thing in NO_WHOLES:
            self.assertRaises(NoNumber, ratio, thing)
            self.assertRaises(NoNumber, ratio, thing, 1)
            self.assertRaises(NoNumber, ratio, thing, 0)
            self.assertRaises(NoNumber, ratio, 1, thing)
            self.assertRaises(NoNumber, ratio, 0, thing)
            self.assertRaises(NoNumber, ratio, thing, thing)

    def test_refuses_bottom_0(self):
        for top in (0, 1, -1, HUGE):
            self.assertRaises(NoNumber, ratio, top, 0)

    def test_taken_behind_a_refusal(self):
        self.assertRaises(NoNumber, ratio, 3, 0)
        self.assertEqual(ratio(3, 6), (1, 2))


class IsRatioTest(unittest.TestCase):
    def test_ratios(self):
        for thing in [(0, 1), (1, 1), (-1, 1), (2, 1), (1, 2), (-1, 2), (3, 2), (-7, 4), (HUGE, 1), (HUGE, HUGE + 1),
                      (-HUGE, HUGE + 1)]:
            self.assertIs(is_ratio(thing), True, thing)

    def test_examples_of_none(self):
        for thing in [(2, 4), (1, 0), (True, 2), [1, 2], 1, None]:
            self.assertIs(is_ratio(thing), False, thing)
            self.assertIs(is_chance(thing), False, thing)

    def test_not_in_lowest_terms(self):
        for thing in [(0, 2), (0, 0), (2, 2), (-2, 4), (6, 3), (HUGE, HUGE), (HUGE * 2, 2), (3, HUGE * 3)]:
            self.assertIs(is_ratio(thing), False, thing)

    def test_bottom_below_1(self):
        for thing in [(0, -1), (1, -1), (1, -2), (-1, -2), (-1, 0), (HUGE, -1)]:
            self.assertIs(is_ratio(thing), False, thing)

    def test_other_kinds(self):
        for thing in NO_WHOLES:
            if thing.__class__ != tuple or thing != (1, 2):
                self.assertIs(is_ratio(thing), False, thing)
                self.assertIs(is_chance(thing), False, thing)

    def test_other_lengths(self):
        for thing in [(), (1,), (1, 2, 3), (1, 2, None), ((1, 2),), ((1, 2), (1, 3))]:
            self.assertIs(is_ratio(thing), False, thing)
            self.assertIs(is_chance(thing), False, thing)

    def test_other_kinds_within(self):
        for thing in NO_WHOLES:
            for around in [(thing, 1), (1, thing), (0, thing), (thing, thing)]:
                self.assertIs(is_ratio(around), False, around)
                self.assertIs(is_chance(around), False, around)

    def test_texts_and_lists_of_two(self):
        for thing in ["12", "01", [0, 1], [1, 1], {0: 1, 1: 1}, range(2)]:
            self.assertIs(is_ratio(thing), False, thing)
            self.assertIs(is_chance(thing), False, thing)

    def test_all_small_pairs(self):
        for top in range(-12, 13):
            for bottom in range(-12, 13):
                wanted = bottom > 0 and pair(Fraction(top, bottom)) == (top, bottom)
                self.assertIs(is_ratio((top, bottom)), wanted)
                self.assertIs(is_chance((top, bottom)), wanted and 0 <= top <= bottom)


class IsChanceTest(unittest.TestCase):
    def test_from_0_to_1(self):
        for thing in [(0, 1), (1, 1), (1, 2), (99, 100), (1, 10 ** 299), (HUGE, HUGE + 1)]:
            self.assertIs(is_chance(thing), True, thing)

    def test_below_0_and_above_1(self):
        for thing in [(-1, 1), (-1, 2), (2, 1), (3, 2), (-1, HUGE), (HUGE + 1, HUGE), (HUGE, 1)]:
            self.assertIs(is_ratio(thing), True, thing)
            self.assertIs(is_chance(thing), False, thing)


class ReckoningTest(unittest.TestCase):
    def test_plain_ones(self):
        self.assertEqual(plus((1, 2), (1, 3)), (5, 6))
        self.assertEqual(plus((1, 2), (1, 2)), (1, 1))
        self.assertEqual(plus((1, 6), (1, 3)), (1, 2))
        self.assertEqual(plus((1, 2), (-1, 2)), (0, 1))
        self.assertEqual(minus((1, 2), (1, 3)), (1, 6))
        self.assertEqual(minus((1, 3), (1, 2)), (-1, 6))
        self.assertEqual(minus((0, 1), (-2, 3)), (2, 3))
        self.assertEqual(times((2, 3), (3, 4)), (1, 2))
        self.assertEqual(times((0, 1), (3, 4)), (0, 1))
        self.assertEqual(times((-2, 3), (-3, 2)), (1, 1))

    def test_under_is_less_not_alike(self):
        self.assertIs(under((1, 3), (1, 2)), True)
        self.assertIs(under((1, 2), (1, 3)), False)
        self.assertIs(under((1, 2), (1, 2)), False)
        self.assertIs(under((-1, 2), (-1, 3)), True)
        self.assertIs(under((-1, 3), (-1, 2)), False)
        self.assertIs(under((-1, 2), (0, 1)), True)
        self.assertIs(under((HUGE, HUGE + 1), (HUGE + 1, HUGE + 2)), True)

    def check_two(self, one, other):
        self.assertEqual(plus(one, other), pair(worth(one) + worth(other)))
        self.assertEqual(minus(one, other), pair(worth(one) - worth(other)))
        self.assertEqual(times(one, other), pair(worth(one) * worth(other)))
        self.assertIs(under(one, other), worth(one) < worth(other))

    def test_all_small_ones(self):
        for one in SMALL:
            for other in SMALL:
                self.check_two(one, other)

    def test_very_many_figures(self):
        long = long_ratios(12, 30)
        for one, other in zip(long, reversed(long)):
            self.check_two(one, other)
            self.check_two(one, (-one[0], one[1]))
            self.check_two(one, (3, 7))
            self.check_two((0, 1), one)

    def test_bottoms_with_much_in_common(self):
        source = random.Random(13)
        for turn in range(300):
            tops = [source.randint(-5000, 5000) for side in range(2)]
            bottoms = [2 ** source.randint(0, 9) * 3 ** source.randint(0, 5) for side in range(2)]
            self.check_two(ratio(tops[0], bottoms[0]), ratio(tops[1], bottoms[1]))


class TotalTest(unittest.TestCase):
    def test_of_none(self):
        self.assertEqual(total([]), (0, 1))

    def test_of_one(self):
        self.assertEqual(total([(-3, 4)]), (-3, 4))

    def test_of_some(self):
        self.assertEqual(total([(1, 2), (1, 3), (1, 6)]), (1, 1))
        self.assertEqual(total([(1, 2), (-1, 2)]), (0, 1))
        self.assertEqual(total([(1, 4)] * 60), (15, 1))

    def test_sixty_of_very_many_figures(self):
        long = long_ratios(14, 60)
        self.assertEqual(total(long), pair(sum([worth(one) for one in long], Fraction(0))))

    def test_whatever_the_order(self):
        ratios = list(SMALL)
        random.Random(15).shuffle(ratios)
        self.assertEqual(total(ratios), total(SMALL))
        self.assertEqual(total(ratios[:9]), pair(sum([worth(one) for one in ratios[:9]])))


if __name__ == "__main__":
    unittest.main()
