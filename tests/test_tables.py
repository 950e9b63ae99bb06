import random
import unittest
from fractions import Fraction
from itertools import permutations, product

from nightbook.ratios import is_chance, is_ratio, plus, times, total, under
from nightbook.tables import above, comers, least_rooms

TOLD = [(1, (1, 2)), (2, (1, 3))]
TABLE = [(1, 3), (1, 3), (1, 6), (1, 6)]
FAR = 10 ** 299
OTHER = [(3, 1), (0, 1), (7, 100), (99, 98), (0, 1), (1, 97)]


def pair(number):
    return (number.numerator, number.denominator)


def random_rows(source, most):
    rows = []
    for place in range(source.randint(0, most)):
        bottom = source.randint(1, 100)
        rows.append((source.randint(1, 4), pair(Fraction(source.randint(0, bottom), bottom))))
    return rows


def by_cases(rows):
    table = [Fraction(0)] * (sum([many for many, chance in rows]) + 1)
    for comes in product([False, True], repeat=len(rows)):
        wanted, weight = 0, Fraction(1)
        for (many, chance), here in zip(rows, comes):
            wanted += many if here else 0
            weight *= Fraction(*chance) if here else 1 - Fraction(*chance)
        table[wanted] += weight
    return [pair(number) for number in table]


def put_together(one, other):
    table = [(0, 1)] * (len(one) + len(other) - 1)
    for i, left in enumerate(one):
        for j, right in enumerate(other):
            table[i + j] = plus(table[i + j], times(left, right))
    return table


SOURCE = random.Random(31)
LISTS = [random_rows(SOURCE, 8) for turn in range(40)]
FULL = [(1 + place % 2, pair(Fraction(place + 1, 100 - place % 3))) for place in range(64)]


class ComersTest(unittest.TestCase):
    def test_examples(self):
        self.assertEqual(comers([]), [(1, 1)])
        self.assertEqual(comers(TOLD), TABLE)

    def test_one_row(self):
        self.assertEqual(comers([(1, (1, 4))]), [(3, 4), (1, 4)])
        self.assertEqual(comers([(4, (1, 100))]), [(99, 100), (0, 1), (0, 1), (0, 1), (1, 100)])

    def test_rows_of_chance_0(self):
        self.assertEqual(comers([(3, (0, 1))]), [(1, 1), (0, 1), (0, 1), (0, 1)])
        self.assertEqual(comers(TOLD + [(2, (0, 1))]), TABLE + [(0, 1), (0, 1)])

    def test_rows_of_chance_1(self):
        self.assertEqual(comers([(3, (1, 1))]), [(0, 1), (0, 1), (0, 1), (1, 1)])
        self.assertEqual(comers([(2, (1, 1))] + TOLD), [(0, 1), (0, 1)] + TABLE)
        self.assertEqual(comers([(1, (1, 1)), (1, (0, 1)), (4, (1, 1))]), [(0, 1)] * 5 + [(1, 1), (0, 1)])

    def test_alike_rows_are_for_themselves(self):
        self.assertEqual(comers([(1, (1, 2))] * 3), [(1, 8), (3, 8), (3, 8), (1, 8)])

    def test_by_cases(self):
        for rows in LISTS:
            self.assertEqual(comers(rows), by_cases(rows))

    def test_as_many_rows_as_there_may_be(self):
        self.assertEqual((len(FULL), sum([many for many, chance in FULL])), (64, 96))
        table = comers(FULL)
        self.assertEqual(len(table), 97)
        self.assertEqual(table, put_together(comers(FULL[:30]), comers(FULL[30:])))
        self.assertEqual(total(table), (1, 1))

    def test_each_place_is_a_chance_in_a_new_list(self):
        for rows in LISTS:
            table = comers(rows)
            self.assertIs(type(table), list)
            self.assertEqual([is_chance(one) for one in table], [True] * len(table))
            self.assertEqual(len(table), 1 + sum([many for many, chance in rows]))


class AboveTest(unittest.TestCase):
    def test_places_greater_than_rooms(self):
        self.assertEqual([above(TABLE, rooms) for rooms in range(-2, 6)],
                         [(1, 1), (1, 1), (2, 3), (1, 3), (1, 6), (0, 1), (0, 1), (0, 1)])

    def test_below_0_and_behind_the_last_place(self):
        for rooms in [-1, -2, -97, -FAR]:
            self.assertEqual(above(TABLE, rooms), (1, 1))
            self.assertEqual(above(OTHER, rooms), total(OTHER))
            self.assertEqual(above([(0, 1)], rooms), (0, 1))
        for rooms in [5, 6, 97, FAR]:
            self.assertEqual(above(TABLE, rooms), (0, 1))
            self.assertEqual(above(OTHER, rooms), (0, 1))

    def test_one_place(self):
        self.assertEqual(above([(1, 1)], -1), (1, 1))
        self.assertEqual(above([(1, 1)], 0), (0, 1))

    def test_other_tables(self):
        for rooms in range(-2, 8):
            wanted = sum([Fraction(*one) for place, one in enumerate(OTHER) if place > rooms], Fraction(0))
            self.assertEqual(above(OTHER, rooms), pair(wanted))
        long = [pair(Fraction(place, 1 + place % 100)) for place in range(97)]
        for rooms in [-1, 0, 40, 95, 96]:
            self.assertEqual(above(long, rooms), pair(sum([Fraction(*one) for one in long[rooms + 1:]], Fraction(0))))

    def test_is_a_ratio(self):
        for rows in LISTS:
            table = comers(rows)
            for rooms in range(-1, len(table) + 1):
                self.assertIs(is_ratio(above(table, rooms)), True)


class LeastRoomsTest(unittest.TestCase):
    def test_a_risk_that_is_just_what_is_above(self):
        self.assertEqual(least_rooms(TABLE, (2, 3)), 0)
        self.assertEqual(least_rooms(TABLE, (1, 3)), 1)
        self.assertEqual(least_rooms(TABLE, (1, 6)), 2)
        self.assertEqual(least_rooms(TABLE, (0, 1)), 3)

    def test_a_risk_just_less(self):
        self.assertEqual(least_rooms(TABLE, (2 * FAR - 1, 3 * FAR)), 1)
        self.assertEqual(least_rooms(TABLE, (FAR - 1, 3 * FAR)), 2)
        self.assertEqual(least_rooms(TABLE, (FAR - 1, 6 * FAR)), 3)
        self.assertEqual(least_rooms(TABLE, (1, FAR)), 3)

    def test_great_risks(self):
        for risk in [(1, 1), (2, 1), (FAR, 1), (3, 4)]:
            self.assertEqual(least_rooms(TABLE, risk), 0)

    def test_no_risk(self):
        self.assertEqual(least_rooms([(1, 1)], (0, 1)), 0)
        self.assertEqual(least_rooms(comers([(2, (0, 1)), (1, (1, 2))]), (0, 1)), 1)
        self.assertEqual(least_rooms([(5, 1)] * 97, (0, 1)), 96)

    def test_other_tables(self):
        self.assertEqual(least_rooms(OTHER, (1, 97)), 3)
        self.assertEqual(least_rooms([(9, 1), (0, 1), (2, 1)], (1, 1)), 2)
        self.assertEqual(least_rooms([(9, 1), (0, 1), (2, 1)], (2, 1)), 0)

    def test_least_of_all(self):
        source = random.Random(32)
        for table in [comers(rows) for rows in LISTS] + [OTHER, comers(FULL)]:
            risks = [pair(Fraction(source.randint(0, 60), 50)) for turn in range(4)]
            for risk in risks + [above(table, len(table) // 2), (0, 1)]:
                rooms = least_rooms(table, risk)
                self.assertIs(under(risk, above(table, rooms)), False)
                for fewer in range(rooms):
                    self.assertIs(under(risk, above(table, fewer)), True)


class SoTest(unittest.TestCase):
    def test_whatever_the_order_of_the_rows(self):
        rows = [(1, (1, 2)), (2, (1, 3)), (4, (99, 100)), (1, (0, 1)), (3, (1, 1))]
        for order in permutations(rows):
            self.assertEqual(comers(list(order)), comers(rows))
        self.assertEqual(comers(FULL[::-1]), comers(FULL))

    def test_two_lists_put_together(self):
        for one, other in zip(LISTS, LISTS[1:]):
            self.assertEqual(comers(one + other), put_together(comers(one), comers(other)))

    def test_one_row_more(self):
        source = random.Random(33)
        for rows in LISTS:
            fewer = comers(rows)
            more = comers(rows + [(source.randint(1, 4), pair(Fraction(source.randint(0, 9), 9)))])
            for rooms in range(-1, len(more) + 1):
                self.assertIs(under(above(more, rooms), above(fewer, rooms)), False)

    def test_a_greater_chance(self):
        for rows in LISTS:
            for place, (many, chance) in enumerate(rows):
                greater = pair((Fraction(*chance) + 1) / 2)
                table = comers(rows)
                other = comers(rows[:place] + [(many, greater)] + rows[place + 1:])
                for rooms in range(-1, len(table) + 1):
                    self.assertIs(under(above(other, rooms), above(table, rooms)), False)

    def test_one_room_more(self):
        for table in [comers(rows) for rows in LISTS] + [OTHER]:
            for rooms in range(-2, len(table) + 1):
                self.assertIs(under(above(table, rooms), above(table, rooms + 1)), False)


if __name__ == "__main__":
    unittest.main()
