import random
import unittest

from nightbook.stretches import count_at, counts, fuller, holds, is_stretch, meets, most_at_once, shared
from tests.oddities import NO_WHOLES

TOLD = [(0, 3), (3, 5), (4, 6), (8, 9)]
FAR = 10 ** 299
SOME_LISTS = [[], [(0, 1)], [(0, 400)], [(399, 400)], [(5, 9), (5, 9), (5, 9)], [(0, 400), (399, 400)], TOLD,
              [(0, 3), (3, 5)], [(2, 4), (398, 400)], [(1, 9), (2, 8), (3, 7)], [(3, 4), (1, 2)]]


def random_lists(seed, many):
    source = random.Random(seed)
    lists = []
    for turn in range(many):
        last = source.choice([4, 12, 40, 400])
        found = []
        for place in range(source.choice([0, 1, 2, 3, 6, 15, 60])):
            first = source.randrange(last)
            found.append((first, source.randint(first + 1, min(400, first + source.choice([1, 3, last])))))
        lists.append(found)
    return lists


ALL_LISTS = SOME_LISTS + random_lists(21, 60)


def by_nights(stretches):
    return [sum([1 for first, behind in stretches if night in range(first, behind)]) for night in range(400)]


class IsStretchTest(unittest.TestCase):
    def test_stretches(self):
        for thing in [(0, 1), (0, 400), (399, 400), (3, 7), (100, 101)]:
            self.assertIs(is_stretch(thing), True, thing)

    def test_out_of_bounds(self):
        for thing in [(0, 0), (3, 3), (5, 4), (-1, 3), (-2, -1), (0, 401), (399, 401), (400, 400), (400, 401),
                      (0, FAR), (-FAR, 3), (FAR, FAR + 1), (-1, 400)]:
            self.assertIs(is_stretch(thing), False, thing)

    def test_all_pairs_near_the_bounds(self):
        near = list(range(-3, 5)) + list(range(396, 404))
        for first in near:
            for behind in near:
                self.assertIs(is_stretch((first, behind)), first >= 0 and behind > first and behind <= 400)

    def test_other_kinds(self):
        for thing in NO_WHOLES + [[0, 3], "03", {0: 3, 1: 4}, range(2), 3]:
            if thing.__class__ != tuple or thing != (1, 2):
                self.assertIs(is_stretch(thing), False, thing)

    def test_other_lengths(self):
        for thing in [(), (0,), (0, 3, 1), (0, 3, None), ((0, 3),)]:
            self.assertIs(is_stretch(thing), False, thing)

    def test_other_kinds_within(self):
        for thing in NO_WHOLES:
            for around in [(thing, 3), (0, thing), (thing, thing)]:
                self.assertIs(is_stretch(around), False, around)
        self.assertIs(is_stretch((False, True)), False)


class TwoTest(unittest.TestCase):
    def test_holds(self):
        self.assertEqual([night for night in range(-5, 10) if holds((2, 5), night)], [2, 3, 4])
        self.assertIs(holds((2, 5), 2), True)
        self.assertIs(holds((2, 5), 5), False)

    def test_holds_at_the_bounds(self):
        for night in [-1, -400, -FAR, 400, 401, FAR]:
            self.assertIs(holds((0, 400), night), False, night)
        for night in [0, 1, 399]:
            self.assertIs(holds((0, 400), night), True, night)

    def test_touching_ones_dont_meet(self):
        self.assertIs(meets((0, 3), (3, 5)), False)
        self.assertIs(meets((3, 5), (0, 3)), False)
        self.assertIsNone(shared((0, 3), (3, 5)))
        self.assertIsNone(shared((3, 5), (0, 3)))
        self.assertIsNone(shared((0, 399), (399, 400)))

    def test_apart(self):
        self.assertIs(meets((0, 1), (399, 400)), False)
        self.assertIsNone(shared((399, 400), (0, 1)))

    def test_in_common(self):
        self.assertEqual(shared((0, 4), (3, 5)), (3, 4))
        self.assertEqual(shared((0, 9), (3, 5)), (3, 5))
        self.assertEqual(shared((3, 5), (3, 5)), (3, 5))
        self.assertEqual(shared((0, 400), (399, 400)), (399, 400))
        self.assertIs(meets((0, 400), (399, 400)), True)

    def test_all_small_pairs(self):
        small = [(first, behind) for first in range(6) for behind in range(first + 1, 7)]
        for one in small:
            for other in small:
                nights = sorted(set(range(*one)) & set(range(*other)))
                self.assertIs(meets(one, other), bool(nights))
                self.assertEqual(shared(one, other), (nights[0], nights[-1] + 1) if nights else None)
                self.assertEqual(shared(one, other), shared(other, one))
                if nights:
                    self.assertIs(is_stretch(shared(one, other)), True)


class CountTest(unittest.TestCase):
    def test_at_nights(self):
        self.assertEqual([count_at(TOLD, night) for night in range(-1, 10)], [0, 1, 1, 1, 1, 2, 1, 0, 0, 1, 0])

    def test_of_none(self):
        for night in [0, 5, 399, -1, FAR]:
            self.assertEqual(count_at([], night), 0)

    def test_below_0_and_far_beyond(self):
        for night in [-1, -FAR, 400, 1000, FAR]:
            self.assertEqual(count_at([(0, 400)] * 3, night), 0)
        self.assertEqual(count_at([(0, 400)] * 3, 399), 3)

    def test_alike_ones_count_each(self):
        self.assertEqual(count_at([(2, 4)] * 5 + [(3, 4)], 3), 6)
        self.assertEqual(count_at([(2, 4)] * 5 + [(3, 4)], 2), 5)

    def test_by_nights(self):
        for stretches in ALL_LISTS:
            self.assertEqual([count_at(stretches, night) for night in range(400)], by_nights(stretches))


class MostAtOnceTest(unittest.TestCase):
    def test_example(self):
        self.assertEqual(most_at_once(TOLD), (2, 4))

    def test_of_none(self):
        self.assertEqual(most_at_once([]), (0, 0))

    def test_least_night(self):
        self.assertEqual(most_at_once([(8, 9), (3, 5)]), (1, 3))
        self.assertEqual(most_at_once([(8, 9), (3, 5), (8, 10), (2, 4)]), (2, 3))
        self.assertEqual(most_at_once([(399, 400)] * 60), (60, 399))

    def test_by_nights(self):
        for stretches in ALL_LISTS:
            if stretches:
                nights = by_nights(stretches)
                self.assertEqual(most_at_once(stretches), (max(nights), nights.index(max(nights))))


class CountsTest(unittest.TestCase):
    def test_example(self):
        self.assertEqual(counts(TOLD), [(0, 4, 1), (4, 5, 2), (5, 6, 1), (6, 8, 0), (8, 9, 1)])

    def test_of_none(self):
        self.assertEqual(counts([]), [])

    def test_touching_ones_are_one_piece(self):
        self.assertEqual(counts([(0, 3), (3, 5)]), [(0, 5, 1)])
        self.assertEqual(counts([(3, 5), (0, 3), (0, 3), (3, 5)]), [(0, 5, 2)])

    def test_0_amid(self):
        self.assertEqual(counts([(2, 4), (398, 400)]), [(2, 4, 1), (4, 398, 0), (398, 400, 1)])

    def test_alike_ones(self):
        self.assertEqual(counts([(5, 9)] * 3), [(5, 9, 3)])

    def test_to_night_400(self):
        self.assertEqual(counts([(0, 400), (399, 400)]), [(0, 399, 1), (399, 400, 2)])

    def test_by_nights(self):
        for stretches in ALL_LISTS:
            if not stretches:
                continue
            nights = by_nights(stretches)
            told = counts(stretches)
            self.assertEqual(told[0][0], min([first for first, behind in stretches]))
            self.assertEqual(told[-1][1], max([behind for first, behind in stretches]))
            for one, other in zip(told, told[1:]):
                self.assertEqual(one[1], other[0])
                self.assertNotEqual(one[2], other[2])
            for first, behind, count in told:
                self.assertLess(first, behind)
                self.assertEqual(set(nights[first:behind]), {count})

    def test_whatever_the_order(self):
        for stretches in ALL_LISTS:
            self.assertEqual(counts(stretches[::-1]), counts(stretches))
            self.assertEqual(counts(sorted(stretches)), counts(stretches))


class FullerTest(unittest.TestCase):
    def test_examples(self):
        self.assertEqual(fuller(TOLD, 0), 0)
        self.assertEqual(fuller(TOLD, 1), 4)
        self.assertEqual(fuller(TOLD, 0, 6), 8)
        self.assertIsNone(fuller(TOLD, 2))

    def test_since_is_0_where_left_out(self):
        for many in range(-1, 4):
            self.assertEqual(fuller(TOLD, many), fuller(TOLD, many, 0))
        self.assertEqual(fuller([(0, 1)], 0), 0)

    def test_arguments_by_name(self):
        self.assertEqual(fuller(stretches=TOLD, many=0, since=6), 8)

    def test_many_below_0_is_since(self):
        for since in [0, 1, 7, 100, 399]:
            for many in [-1, -2, -FAR]:
                self.assertEqual(fuller([], many, since), since)
                self.assertEqual(fuller(TOLD, many, since), since)
        self.assertEqual(fuller([], -1), 0)

    def test_of_none(self):
        self.assertIsNone(fuller([], 0))
        self.assertIsNone(fuller([], FAR, 399))

    def test_since_amid_a_stretch(self):
        self.assertEqual(fuller([(0, 400)], 0, 399), 399)
        self.assertEqual(fuller([(0, 400), (399, 400)], 1), 399)
        self.assertEqual(fuller([(2, 6), (3, 6)], 1, 5), 5)
        self.assertIsNone(fuller([(2, 6), (3, 6)], 1, 6))

    def test_very_many(self):
        self.assertIsNone(fuller([(0, 400)] * 60, FAR))
        self.assertIsNone(fuller([(0, 400)] * 60, 60))
        self.assertEqual(fuller([(0, 400)] * 60, 59, 17), 17)

    def test_by_nights(self):
        for stretches in ALL_LISTS:
            nights = by_nights(stretches)
            for many in sorted(set([-1, 0, 1, max(nights) - 1, max(nights), max(nights) // 2])):
                for since in [0, 1, 3, 5, 11, 39, 200, 399]:
                    found = [night for night in range(since, 400) if nights[night] > many]
                    self.assertEqual(fuller(stretches, many, since), found[0] if found else None)


if __name__ == "__main__":
    unittest.main()
