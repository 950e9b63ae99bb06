import random
import unittest
from fractions import Fraction
from itertools import product

from nightbook.chances import chance_at, is_ladder, most_alike, rooms_from, tight
from nightbook.ratios import is_chance, plus
from nightbook.tables import above, comers
from tests.oddities import NO_WHOLES

FAR = 10 ** 299
CHANCES = [(0, 1), (1, 100), (1, 10), (1, 3), (1, 2), (2, 3), (97, 100), (1, 1)]
RISKS = [(0, 1), (1, 10 ** 9), (1, 100), (1, 20), (1, 4), (1, 2), (99, 100), (1, 1), (3, 2), (FAR, 1)]


def pair(number):
    return (number.numerator, number.denominator)


def by_cases(stays, night, kind, ladder):
    """More come than there are such rooms: all cases of who comes, added up."""
    rooms = sum(many for place, many in enumerate(ladder) if place + 1 >= kind)
    chances = [Fraction(*chance) for first, behind, own, chance in stays if first <= night < behind and own >= kind]
    found = Fraction(0)
    for comes in product([False, True], repeat=len(chances)):
        if sum(comes) > rooms:
            weight = Fraction(1)
            for chance, here in zip(chances, comes):
                weight *= chance if here else 1 - chance
            found += weight
    return pair(found)


def tight_by_nights(stays, new, ladder, risk):
    for night in range(new[0], new[1]):
        for kind in range(1, new[2] + 1):
            chance = by_cases(stays + [new], night, kind, ladder)
            if Fraction(*chance) > Fraction(*risk):
                return (night, kind, chance)
    return None


def random_ladder(source):
    while True:
        ladder = [source.randint(0, 3) for kind in range(source.randint(1, 4))]
        if sum(ladder) <= 12:
            return ladder


def random_stay(source, ladder, last):
    first = source.randrange(last)
    behind = source.randint(first + 1, last)
    bottom = source.choice([1, 2, 3, 10, 97, 100])
    return (first, behind, source.randint(1, len(ladder)), pair(Fraction(source.randint(0, bottom), bottom)))


class MostAlikeTest(unittest.TestCase):
    def test_by_all_tables(self):
        tables = {chance: [comers([(1, chance)] * many) for many in range(61)] for chance in CHANCES}
        for chance in CHANCES:
            for rooms in (0, 1, 2, 5, 12, 30, 59, 60, 61, 100):
                for risk in RISKS:
                    fit = [many for many, table in enumerate(tables[chance])
                           if Fraction(*above(table, rooms)) <= Fraction(*risk)]
                    self.assertEqual(most_alike(chance, rooms, risk), fit[-1], (chance, rooms, risk))
                    self.assertEqual(fit, list(range(fit[-1] + 1)))

    def test_chance_0_and_1(self):
        for rooms in (0, 1, 7, 60, 61, FAR):
            self.assertEqual(most_alike((0, 1), rooms, (0, 1)), 60)
            self.assertEqual(most_alike((1, 1), rooms, (0, 1)), min(rooms, 60))
            self.assertEqual(most_alike((1, 1), rooms, (FAR - 1, FAR)), min(rooms, 60))
            self.assertEqual(most_alike((1, 1), rooms, (1, 1)), 60)

    def test_risk_1_and_above(self):
        for chance in CHANCES:
            for rooms in (0, 3, FAR):
                for risk in [(1, 1), (2, 1), (FAR, 1), (FAR + 1, FAR)]:
                    self.assertEqual(most_alike(chance, rooms, risk), 60)

    def test_a_risk_of_0(self):
        for rooms in (0, 1, 12, 59, 60, 61):
            self.assertEqual(most_alike((1, 2), rooms, (0, 1)), min(rooms, 60))

    def test_a_risk_that_is_just_what_is_above(self):
        for many in (1, 2, 5, 9, 40, 60):
            for rooms in (0, 1, 4):
                if rooms < many:
                    risk = above(comers([(1, (1, 3))] * many), rooms)
                    self.assertEqual(most_alike((1, 3), rooms, risk), many)
                    self.assertEqual(most_alike((1, 3), rooms, (risk[0] * FAR - 1, risk[1] * FAR)), many - 1)

    def test_some_told_by_hand(self):
        self.assertEqual(most_alike((1, 2), 0, (1, 2)), 1)
        self.assertEqual(most_alike((1, 2), 0, (3, 4)), 2)
        self.assertEqual(most_alike((1, 2), 1, (1, 4)), 2)
        self.assertEqual(most_alike((1, 2), 1, (1, 5)), 1)

    def test_rooms_beyond_sixty(self):
        for rooms in (60, 61, 97, 10 ** 18, FAR):
            for chance in CHANCES:
                self.assertEqual(most_alike(chance, rooms, (0, 1)), 60)

    def test_one_room_more_or_a_greater_risk_is_no_less(self):
        for chance in CHANCES:
            for risk, greater in zip(RISKS, RISKS[1:]):
                for rooms in (0, 1, 6, 20):
                    told = most_alike(chance, rooms, risk)
                    self.assertLessEqual(told, most_alike(chance, rooms + 1, risk))
                    self.assertLessEqual(told, most_alike(chance, rooms, greater))

    def test_a_greater_chance_is_no_more(self):
        for chance, greater in zip(CHANCES, CHANCES[1:]):
            for risk in RISKS:
                self.assertGreaterEqual(most_alike(chance, 4, risk), most_alike(greater, 4, risk))


class LadderTest(unittest.TestCase):
    def test_ladders(self):
        for thing in [[0], [12], [0, 0, 0, 0], [3, 3, 3, 3], [12, 0], [0, 12], [1, 2], [1, 2, 3], [0, 0, 0, 12],
                      [4, 5, 2, 1]]:
            self.assertIs(is_ladder(thing), True, thing)

    def test_other_bounds(self):
        for thing in [[], [13], [-1], [1, -1], [12, 1], [3, 3, 3, 4], [0] * 5, [1] * 5, [FAR], [-FAR], [FAR, -FAR],
                      [14, -2]]:
            self.assertIs(is_ladder(thing), False, thing)

    def test_all_small_ones(self):
        for many in range(0, 6):
            for thing in product([-1, 0, 1, 4, 12], repeat=many):
                wanted = 1 <= many <= 4 and min(thing) >= 0 and sum(thing) <= 12
                self.assertIs(is_ladder(list(thing)), wanted, thing)
                self.assertIs(is_ladder(thing), False, thing)

    def test_other_kinds(self):
        for thing in NO_WHOLES + [1, 3, "123", (1, 2), (3,), {0: 1}, [[1]], [(1, 2)], [[], 1]]:
            if thing.__class__ != list or thing not in ([1], [1, 2]):
                self.assertIs(is_ladder(thing), False, thing)

    def test_other_kinds_within(self):
        for thing in NO_WHOLES:
            for around in [[thing], [1, thing], [thing, 2, 3], [1, 2, 3, thing]]:
                self.assertIs(is_ladder(around), False)

    def test_rooms_from(self):
        self.assertEqual([rooms_from([4, 3, 2, 1], kind) for kind in (1, 2, 3, 4)], [10, 6, 3, 1])
        self.assertEqual([rooms_from([0, 0, 5], kind) for kind in (1, 2, 3)], [5, 5, 5])
        self.assertEqual(rooms_from([12], 1), 12)
        self.assertEqual(rooms_from([0], 1), 0)
        self.assertEqual([rooms_from([7, 0], kind) for kind in (1, 2)], [7, 0])


class ChanceAtTest(unittest.TestCase):
    def test_by_hand(self):
        stays = [(0, 3, 1, (1, 2)), (2, 5, 1, (1, 2))]
        self.assertEqual([chance_at(stays, night, 1, [1]) for night in range(6)],
                         [(0, 1), (0, 1), (1, 4), (0, 1), (0, 1), (0, 1)])
        self.assertEqual([chance_at(stays, night, 1, [0]) for night in range(6)],
                         [(1, 2), (1, 2), (3, 4), (1, 2), (1, 2), (0, 1)])

    def test_kinds_and_better_rooms(self):
        stays = [(0, 2, 1, (1, 1)), (0, 2, 2, (1, 2)), (1, 3, 2, (1, 3))]
        self.assertEqual(chance_at(stays, 0, 1, [1, 0]), (1, 2))
        self.assertEqual(chance_at(stays, 0, 2, [1, 0]), (1, 2))
        self.assertEqual(chance_at(stays, 1, 1, [1, 1]), (1, 6))
        self.assertEqual(chance_at(stays, 1, 2, [1, 1]), (1, 6))
        self.assertEqual(chance_at(stays, 1, 1, [2, 0]), (1, 6))
        self.assertEqual(chance_at(stays, 1, 2, [0, 0]), (2, 3))

    def test_nobody(self):
        self.assertEqual(chance_at([], 0, 1, [0]), (0, 1))
        self.assertEqual(chance_at([], 399, 4, [1, 1, 1, 1]), (0, 1))

    def test_first_and_last_nights(self):
        stays = [(0, 400, 1, (1, 2)), (399, 400, 1, (1, 1)), (0, 1, 1, (0, 1))]
        self.assertEqual(chance_at(stays, 0, 1, [0]), (1, 2))
        self.assertEqual(chance_at(stays, 200, 1, [0]), (1, 2))
        self.assertEqual(chance_at(stays, 399, 1, [0]), (1, 1))
        self.assertEqual(chance_at(stays, 399, 1, [1]), (1, 2))

    def test_by_cases(self):
        source = random.Random(51)
        for turn in range(150):
            ladder = random_ladder(source)
            stays = [random_stay(source, ladder, 6) for place in range(source.randint(0, 8))]
            for kind in range(1, len(ladder) + 1):
                night = source.randint(-1, 6)
                told = chance_at(stays, night, kind, ladder)
                self.assertEqual(told, by_cases(stays, night, kind, ladder))
                self.assertIs(is_chance(told), True)

    def test_twenty_four(self):
        stays = [(0, 9, 1 + place % 4, (place + 1, 97)) for place in range(24)]
        for kind in (1, 2, 3, 4):
            rows = [(1, chance) for first, behind, own, chance in stays if own >= kind]
            self.assertEqual(chance_at(stays, 3, kind, [3, 3, 3, 3]), above(comers(rows), 3 * (5 - kind)))


class TightTest(unittest.TestCase):
    def test_examples(self):
        stay = (0, 3, 1, (1, 2))
        self.assertEqual(tight([stay], (2, 5, 1, (1, 2)), [1], (1, 10)), (2, 1, (1, 4)))
        self.assertEqual(tight([stay, stay], (0, 1, 1, (0, 1)), [1], (1, 10)), (0, 1, (1, 4)))

    def test_a_risk_that_is_just_the_chance(self):
        stay, new = (0, 3, 1, (1, 2)), (2, 5, 1, (1, 2))
        self.assertIsNone(tight([stay], new, [1], (1, 4)))
        self.assertEqual(tight([stay], new, [1], (FAR - 1, 4 * FAR)), (2, 1, (1, 4)))

    def test_risks(self):
        stays = [(0, 400, 1, (1, 1))] * 3
        for risk in [(1, 1), (2, 1), (FAR, 1)]:
            self.assertIsNone(tight(stays, (0, 400, 1, (1, 1)), [0], risk))
        self.assertEqual(tight([], (5, 6, 1, (1, 100)), [0], (0, 1)), (5, 1, (1, 100)))
        self.assertIsNone(tight([], (5, 6, 1, (0, 1)), [0], (0, 1)))
        self.assertIsNone(tight([], (5, 6, 1, (1, 1)), [1], (0, 1)))

    def test_the_first_night_then_the_least_kind(self):
        stays = [(4, 6, 2, (1, 1)), (2, 5, 1, (1, 1))]
        self.assertEqual(tight(stays, (0, 9, 2, (1, 1)), [0, 1], (0, 1)), (2, 1, (1, 1)))
        self.assertEqual(tight(stays, (3, 9, 2, (1, 1)), [0, 1], (0, 1)), (3, 1, (1, 1)))
        self.assertEqual(tight(stays, (0, 9, 2, (1, 1)), [1, 1], (0, 1)), (4, 1, (1, 1)))
        self.assertEqual(tight(stays, (0, 9, 2, (1, 1)), [2, 1], (0, 1)), (4, 2, (1, 1)))
        self.assertIsNone(tight(stays, (0, 9, 2, (1, 1)), [1, 2], (0, 1)))

    def test_kinds_above_its_own_are_not_looked_at(self):
        better = [(0, 9, 2, (1, 1))] * 2
        self.assertIsNone(tight(better, (0, 9, 1, (1, 1)), [2, 1], (0, 1)))
        self.assertEqual(tight(better, (0, 9, 2, (1, 1)), [2, 1], (0, 1)), (0, 2, (1, 1)))
        self.assertEqual(tight(better, (0, 9, 1, (1, 1)), [1, 1], (0, 1)), (0, 1, (1, 1)))

    def test_nights_of_others_are_not_looked_at(self):
        full = [(0, 3, 1, (1, 1)), (1, 3, 1, (1, 1)), (5, 400, 1, (1, 1)), (5, 7, 1, (1, 1))]
        self.assertIsNone(tight(full, (3, 5, 1, (1, 1)), [1], (0, 1)))
        self.assertEqual(tight(full, (3, 6, 1, (1, 1)), [1], (0, 1)), (5, 1, (1, 1)))
        self.assertEqual(tight(full, (399, 400, 1, (1, 1)), [1], (0, 1)), (399, 1, (1, 1)))

    def test_by_nights(self):
        source = random.Random(52)
        told_ones = 0
        for turn in range(300):
            ladder = random_ladder(source)
            stays = [random_stay(source, ladder, 7) for place in range(source.randint(0, 6))]
            new = random_stay(source, ladder, 7)
            risk = source.choice([(0, 1), (1, 50), (1, 10), (1, 3), (1, 1)])
            told = tight(stays, new, ladder, risk)
            self.assertEqual(told, tight_by_nights(stays, new, ladder, risk))
            told_ones += told is not None
        self.assertTrue(40 < told_ones < 280, told_ones)

    def test_twenty_four_that_last_long(self):
        stays = [(place, 400 - place, 1 + place % 4, (1, 2)) for place in range(24)]
        told = tight(stays, (0, 400, 4, (1, 2)), [3, 3, 3, 3], (1, 100))
        nights = [night for night in range(400) for kind in (1, 2, 3, 4)
                  if 100 * chance_at(stays + [(0, 400, 4, (1, 2))], night, kind, [3, 3, 3, 3])[0]
                  > chance_at(stays + [(0, 400, 4, (1, 2))], night, kind, [3, 3, 3, 3])[1]]
        self.assertEqual(told[0], nights[0])
        self.assertEqual(told[2], chance_at(stays + [(0, 400, 4, (1, 2))], told[0], told[1], [3, 3, 3, 3]))


class SoTest(unittest.TestCase):
    def test_one_stay_more_is_no_less(self):
        source = random.Random(53)
        for turn in range(60):
            ladder = random_ladder(source)
            stays = [random_stay(source, ladder, 6) for place in range(6)]
            for night in range(6):
                for kind in range(1, len(ladder) + 1):
                    more = Fraction(*chance_at(stays, night, kind, ladder))
                    self.assertLessEqual(Fraction(*chance_at(stays[:-1], night, kind, ladder)), more)
                    if sum(ladder) < 12:
                        wider = ladder[:-1] + [ladder[-1] + 1]
                        self.assertLessEqual(Fraction(*chance_at(stays, night, kind, wider)), more)

    def test_a_greater_chance_is_no_less(self):
        source = random.Random(54)
        for turn in range(60):
            ladder = random_ladder(source)
            stays = [random_stay(source, ladder, 6) for place in range(6)]
            first, behind, kind, chance = stays[0]
            greater = plus(chance, pair((1 - Fraction(*chance)) / 2))
            for night in range(6):
                one = chance_at(stays, night, 1, ladder)
                other = chance_at([(first, behind, kind, greater)] + stays[1:], night, 1, ladder)
                self.assertLessEqual(Fraction(*one), Fraction(*other))


if __name__ == "__main__":
    unittest.main()
