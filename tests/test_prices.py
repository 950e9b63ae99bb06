import random
import unittest

from nightbook.prices import best
from nightbook.worth import bound_by, by_turns, is_best, is_choice, worth_of
from tests.papers import choices_of, prices_hold
from tests.test_worth import random_wishes

MOST = 10 ** 9


class BestTest(unittest.TestCase):
    def look(self, wishes, free):
        told = best(wishes, free)
        self.assertEqual((type(told), len(told)), (tuple, 3))
        worth, choice, prices = told
        self.assertTrue(prices_hold(wishes, free, choice, prices), (wishes, free, told))
        self.assertEqual(worth, sum(wishes[place][2] for place in choice))
        self.assertEqual(worth, worth_of(wishes, choice))
        self.assertEqual(worth, bound_by(wishes, free, prices))
        self.assertIs(is_choice(wishes, free, choice), True)
        self.assertIs(is_best(wishes, free, choice, prices), True)
        self.assertGreaterEqual(worth, worth_of(wishes, by_turns(wishes, free)))
        return worth

    def test_nothing(self):
        self.assertEqual(best([], []), (0, [], []))
        self.assertEqual(self.look([], [0, 3, 12]), 0)

    def test_by_hand(self):
        self.assertEqual(self.look([(0, 1, 4)], [1]), 4)
        self.assertEqual(self.look([(0, 1, 4)], [0]), 0)
        self.assertEqual(self.look([(0, 2, 6), (0, 1, 4), (1, 2, 3)], [1, 1]), 7)
        self.assertEqual(self.look([(0, 2, 8), (0, 1, 4), (1, 2, 3)], [1, 1]), 8)
        self.assertEqual(self.look([(0, 2, 7), (0, 1, 4), (1, 2, 3)], [1, 1]), 7)
        self.assertEqual(self.look([(0, 2, 6), (0, 1, 4), (1, 2, 3)], [2, 1]), 10)
        self.assertEqual(self.look([(0, 2, 6), (0, 1, 4), (1, 2, 3)], [2, 2]), 13)

    def test_who_came_first_gives_way(self):
        wishes = [(0, 3, 5), (3, 6, 5), (0, 2, 4), (2, 4, 4), (4, 6, 4)]
        self.assertEqual(self.look(wishes, [1] * 6), 12)
        self.assertEqual(self.look(wishes[:4], [1] * 6), 10)
        self.assertEqual(self.look(wishes, [2] * 6), 22)

    def test_nights_on_which_none_is_free(self):
        self.assertEqual(self.look([(0, 3, 9), (0, 1, 2), (1, 2, 5), (2, 3, 3)], [1, 0, 1]), 5)
        self.assertEqual(self.look([(0, 3, 9), (1, 2, MOST)], [0, 0, 0]), 0)

    def test_worths_of_0_and_the_greatest(self):
        self.assertEqual(self.look([(0, 1, 0)] * 5, [2]), 0)
        self.assertEqual(self.look([(0, 1, MOST)] * 5, [2]), 2 * MOST)
        self.assertEqual(self.look([(0, 60, MOST)] * 40, [12] * 60), 12 * MOST)
        self.assertEqual(self.look([(0, 2, MOST), (0, 1, 0), (1, 2, MOST), (0, 1, MOST)], [1, 1]), 2 * MOST)

    def test_small_ones_by_all_choices(self):
        source = random.Random(111)
        for turn in range(300):
            free = [source.randint(0, 3) for night in range(source.randint(0, 6))]
            wishes = random_wishes(source, free, source.randint(0, 9), source.choice([2, 9, MOST]))
            most = max(sum(wishes[place][2] for place in choice) for choice in choices_of(wishes, free))
            self.assertEqual(self.look(wishes, free), most)

    def test_forty_wishes_and_sixty_nights(self):
        source = random.Random(112)
        for turn in range(30):
            free = [source.randint(0, source.choice([1, 3, 12])) for night in range(60)]
            wishes = random_wishes(source, free, 40, source.choice([3, 50, MOST]))
            self.look(wishes, free)

    def test_short_wishes_and_sixty_nights(self):
        source = random.Random(113)
        for turn in range(20):
            free = [source.randint(1, 3) for night in range(60)]
            wishes = []
            for place in range(40):
                first = source.randrange(57)
                wishes.append((first, first + source.randint(1, 3), source.randint(0, 20)))
            self.look(wishes, free)

    def test_somewhat_beyond_the_bounds(self):
        source = random.Random(114)
        free = [source.randint(0, 15) for night in range(70)]
        self.look(random_wishes(source, free, 48, MOST), free)


if __name__ == "__main__":
    unittest.main()
