import random
import unittest
from itertools import product

from nightbook.errors import NoWish
from nightbook.prices import best
from nightbook.worth import bound_by, by_turns, cost, is_best, is_choice, worth_of
from tests.oddities import NO_WHOLES
from tests.papers import are_prices, choices_of, is_a_choice, nights, prices_hold

FAR = 10 ** 299
MOST = 10 ** 9
FREE = [1, 2, 0, 1]
WISHES = [(0, 2, 5), (1, 2, 3), (0, 1, 4), (1, 3, 9), (3, 4, 0)]


def random_wishes(source, free, many, most):
    wishes = []
    for place in range(many if free else 0):
        first = source.randrange(len(free))
        wishes.append((first, source.randint(first + 1, len(free)), source.randint(0, most)))
    return wishes


class RefusedTest(unittest.TestCase):
    CALLS = [(best, 0), (by_turns, 0), (is_choice, 1), (bound_by, 1), (is_best, 2)]

    def each(self, wishes, free, at):
        for call, more in self.CALLS:
            for rest in ([[]] * more, [None] * more, ["x"] * more):
                # bound_by is told prices alone.
                if call is bound_by and rest != [[]]:
                    continue
                with self.assertRaises(NoWish) as caught:
                    call(wishes, free, *rest)
                self.assertEqual(caught.exception.at, at)

    def test_each_alone(self):
        for wish in [(-1, 2, 3), (2, 2, 3), (3, 2, 3), (0, 5, 3), (4, 5, 3), (0, 2, -1), (0, 2, MOST + 1), (0, 2, FAR),
                     (0, FAR, 1), (-FAR, 2, 1), (0, 2, -FAR), (4, 4, 0)]:
            self.each([wish], FREE, 0)
            self.each([(0, 4, 0), wish], FREE, 1)

    def test_no_nights_told(self):
        self.each([(0, 1, 3)], [], 0)
        self.each([(0, 0, 3)], [], 0)

    def test_the_first_goes_first(self):
        self.each([(0, 1, 0), (0, 9, 1), (2, 1, 1), (0, 1, -1)], FREE, 1)

    def test_at_the_bounds_they_are_taken(self):
        for wish in [(0, 4, 0), (3, 4, MOST), (0, 1, MOST), (0, 1, 0)]:
            self.assertIs(is_choice([wish], FREE, []), True)
            self.assertIs(type(best([wish], FREE)), tuple)
            self.assertIs(type(by_turns([wish], FREE)), list)
            self.assertIs(type(bound_by([wish], FREE, [])), int)

    def test_cost_and_worth_of_refuse_nothing(self):
        self.assertEqual(cost([(3, 5)], -FAR, FAR), 5)
        self.assertEqual(cost([(3, 5)], 9, 2), 0)
        self.assertEqual(worth_of([(5, 2, -7), (0, 900, FAR)], [0, 1]), FAR - 7)


class CostTest(unittest.TestCase):
    def test_by_hand(self):
        prices = [(1, 4), (2, 1), (7, 10)]
        self.assertEqual([cost(prices, 0, behind) for behind in range(9)], [0, 0, 4, 5, 5, 5, 5, 5, 15])
        self.assertEqual([cost(prices, first, 8) for first in range(9)], [15, 15, 11, 10, 10, 10, 10, 10, 0])
        self.assertEqual([cost([], first, behind) for first, behind in [(0, 9), (5, 5), (-3, FAR)]], [0, 0, 0])
        self.assertEqual(cost(prices, 2, 2), 0)
        self.assertEqual(cost(prices, 3, 1), 0)

    def test_worth_of(self):
        self.assertEqual(worth_of(WISHES, []), 0)
        self.assertEqual(worth_of(WISHES, [0, 3]), 14)
        self.assertEqual(worth_of([], []), 0)
        self.assertEqual(worth_of([(0, 1, MOST)] * 40, list(range(40))), 40 * MOST)


class IsChoiceTest(unittest.TestCase):
    def test_all_lists_of_places(self):
        for many in range(4):
            for thing in product(range(-1, 6), repeat=many):
                self.assertIs(is_choice(WISHES, FREE, list(thing)), is_a_choice(WISHES, FREE, list(thing)), thing)

    def test_by_hand(self):
        self.assertIs(is_choice(WISHES, FREE, [0, 1, 4]), True)
        self.assertIs(is_choice(WISHES, FREE, [0, 2]), False)
        self.assertIs(is_choice(WISHES, FREE, [3]), False)
        self.assertIs(is_choice(WISHES, FREE, [1, 0]), False)
        self.assertIs(is_choice(WISHES, FREE, [1, 1]), False)
        self.assertIs(is_choice([], [], []), True)
        self.assertIs(is_choice([], FREE, []), True)

    def test_things_of_every_other_kind(self):
        for thing in NO_WHOLES + [(0, 1), {0: 1}, "0", 0, 1]:
            if thing.__class__ != list:
                self.assertIs(is_choice(WISHES, FREE, thing), False, thing)
            self.assertIs(is_choice(WISHES, FREE, [thing]), isinstance(thing, int) and type(thing) is int, thing)
            self.assertIs(is_choice(WISHES, FREE, [0, thing]), type(thing) is int and thing == 1, thing)

    def test_random_ones(self):
        source = random.Random(101)
        for turn in range(200):
            free = [source.randint(0, 3) for night in range(source.randint(0, 6))]
            wishes = random_wishes(source, free, source.randint(0, 8), 9)
            thing = sorted(source.sample(range(len(wishes)), source.randint(0, len(wishes))))
            self.assertIs(is_choice(wishes, free, thing), is_a_choice(wishes, free, thing))


class IsBestTest(unittest.TestCase):
    FREE = [1, 1]
    WISHES = [(0, 2, 6), (0, 1, 4), (1, 2, 3)]

    def test_by_hand(self):
        self.assertIs(is_best(self.WISHES, self.FREE, [1, 2], [(0, 4), (1, 3)]), True)
        self.assertIs(is_best(self.WISHES, self.FREE, [1, 2], [(0, 3), (1, 3)]), True)
        # The wish that isn't chosen is worth more than its nights cost.
        self.assertIs(is_best(self.WISHES, self.FREE, [1, 2], [(0, 2), (1, 3)]), False)
        # One that is chosen is worth less.
        self.assertIs(is_best(self.WISHES, self.FREE, [1, 2], [(0, 5), (1, 3)]), False)
        # A night that has a price is not sold out.
        self.assertIs(is_best([(0, 1, 4)], [2], [0], [(0, 1)]), False)
        self.assertIs(is_best([(0, 1, 4)], [2], [0], []), True)
        self.assertIs(is_best([(0, 1, 4)], [1], [0], [(0, 4)]), True)
        self.assertIs(is_best([(0, 1, 4)], [1], [], [(0, 4)]), False)
        self.assertIs(is_best([(0, 1, 4)], [0], [], [(0, 4)]), True)
        self.assertIs(is_best([(0, 1, 4)], [0], [], [(0, 3)]), False)

    def test_worth_as_much_as_the_nights_cost(self):
        wishes = [(0, 1, 4), (0, 1, 4)]
        self.assertIs(is_best(wishes, [1], [0], [(0, 4)]), True)
        self.assertIs(is_best(wishes, [1], [1], [(0, 4)]), True)
        self.assertIs(is_best(wishes, [1], [0], [(0, 5)]), False)
        self.assertIs(is_best(wishes, [1], [0], [(0, 3)]), False)

    def test_prices_of_other_forms(self):
        good = [(0, 4), (1, 3)]
        for prices in [[(1, 3), (0, 4)], [(0, 4), (0, 4)], [(0, 4), (1, 3), (2, 1)], [(-1, 4), (0, 4), (1, 3)],
                       [[0, 4], (1, 3)], ((0, 4), (1, 3)), [(0, 4, 1), (1, 3)], [(0,), (1, 3)], [(0, 4), (1, 3), ()],
                       {0: 4, 1: 3}, [(0, True), (1, 3)], [(False, 4), (1, 3)], [(0, 4), (1, 3.0)], [(0, 0), (1, 3)]]:
            self.assertIs(is_best(self.WISHES, self.FREE, [1, 2], good), True)
            self.assertIs(is_best(self.WISHES, self.FREE, [1, 2], prices), False, prices)
        self.assertIs(is_best([], [0, 0], [], [(0, 0)]), False)
        self.assertIs(is_best([], [0, 0], [], [(0, -1)]), False)
        self.assertIs(is_best([], [0, 0], [], [(0, 1), (1, FAR)]), True)
        self.assertIs(is_best([], [0, 0], [], [(-1, 1)]), False)
        self.assertIs(is_best([], [0, 0], [], [(2, 1)]), False)
        self.assertIs(is_best([], [], [], []), True)

    def test_things_of_every_other_kind(self):
        good = [(0, 4), (1, 3)]
        for thing in NO_WHOLES + [(1, 2), "12", 12]:
            if thing.__class__ != list or thing != [1, 2]:
                self.assertIs(is_best(self.WISHES, self.FREE, thing, good), False, thing)
            self.assertIs(is_best(self.WISHES, self.FREE, [1, thing], good), False, thing)
            self.assertIs(is_best(self.WISHES, self.FREE, [1, 2], thing), False, thing)
            self.assertIs(is_best(self.WISHES, self.FREE, [1, 2], [(0, 4), (1, 3), thing]), False, thing)
            self.assertIs(is_best(self.WISHES, self.FREE, [1, 2], [(0, thing), (1, 3)]), False, thing)
            self.assertIs(is_best(self.WISHES, self.FREE, [1, 2], [(0, 4), (thing, 3)]), False, thing)
            self.assertIs(is_best(self.WISHES, self.FREE, thing, thing), False, thing)

    def test_random_ones(self):
        source = random.Random(102)
        seen = 0
        for turn in range(3000):
            free = [source.randint(0, 2) for night in range(source.randint(1, 3))]
            wishes = random_wishes(source, free, source.randint(0, 3), 3)
            choice = sorted(source.sample(range(len(wishes)), source.randint(0, len(wishes))))
            prices = [(night, source.randint(1, 3)) for night in range(len(free)) if source.random() < 0.5]
            wanted = prices_hold(wishes, free, choice, prices)
            self.assertIs(is_best(wishes, free, choice, prices), wanted)
            seen += wanted
        self.assertGreater(seen, 100)


class BoundByTest(unittest.TestCase):
    def test_by_hand(self):
        self.assertEqual(bound_by(WISHES, FREE, []), 21)
        self.assertEqual(bound_by(WISHES, FREE, [(0, 4)]), 4 + 1 + 3 + 0 + 9 + 0)
        self.assertEqual(bound_by(WISHES, FREE, [(0, 4), (1, 1), (2, 8)]), 4 + 2 + 0 + 0 + 2 + 0 + 0 + 0)
        self.assertEqual(bound_by([], [], []), 0)
        self.assertEqual(bound_by([], [3, 12], [(1, FAR)]), 12 * FAR)

    def test_no_choice_is_worth_more(self):
        source = random.Random(103)
        for turn in range(150):
            free = [source.randint(0, 3) for night in range(source.randint(1, 5))]
            wishes = random_wishes(source, free, source.randint(0, 6), 9)
            most = max(worth_of(wishes, choice) for choice in choices_of(wishes, free))
            for again in range(4):
                prices = [(night, source.randint(1, 6)) for night in range(len(free)) if source.random() < 0.6]
                self.assertTrue(are_prices(free, prices))
                told = bound_by(wishes, free, prices)
                by_night = dict(prices)
                gains = [wish[2] - sum(by_night.get(night, 0) for night in nights(wish)) for wish in wishes]
                wanted = sum(free[night] * price for night, price in prices) + sum(max(0, one) for one in gains)
                self.assertEqual(told, wanted)
                self.assertGreaterEqual(told, most)
            told = best(wishes, free)
            self.assertEqual(told[0], most)
            self.assertEqual(bound_by(wishes, free, told[2]), most)


class ByTurnsTest(unittest.TestCase):
    def test_by_hand(self):
        self.assertEqual(by_turns(WISHES, FREE), [0, 1, 4])
        self.assertEqual(by_turns(WISHES[::-1], FREE), [0, 2, 3])
        self.assertEqual(by_turns([], FREE), [])
        self.assertEqual(by_turns([], []), [])
        self.assertEqual(by_turns([(0, 1, 0)] * 3, [2]), [0, 1])
        self.assertEqual(by_turns([(0, 1, 5)], [0]), [])

    def test_by_words(self):
        source = random.Random(104)
        for turn in range(200):
            free = [source.randint(0, 3) for night in range(source.randint(0, 6))]
            wishes = random_wishes(source, free, source.randint(0, 12), 9)
            taken = []
            for place in range(len(wishes)):
                if is_a_choice(wishes, free, taken + [place]):
                    taken.append(place)
            self.assertEqual(by_turns(wishes, free), taken)
            self.assertGreaterEqual(best(wishes, free)[0], worth_of(wishes, taken))


if __name__ == "__main__":
    unittest.main()
