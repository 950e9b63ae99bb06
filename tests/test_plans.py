import random
import unittest
from itertools import product

from nightbook.errors import NoStay, Taken
from nightbook.plans import free_at, is_plan, row_of
from nightbook.seats import seated
from tests.oddities import NO_WHOLES
from tests.papers import all_plans, is_a_plan, nights, random_stays

STAYS = [(0, 4, 1), (4, 6, None), (3, 5, None)]


class IsPlanTest(unittest.TestCase):
    def test_all_lists_of_small_numbers(self):
        source = random.Random(71)
        for turn in range(60):
            rooms, now = source.randint(0, 3), source.choice([0, 2])
            stays = random_stays(source, rooms, now, source.randint(0, 4), now + 5)
            for thing in product(range(-1, rooms + 1), repeat=len(stays)):
                self.assertIs(is_plan(stays, rooms, now, list(thing)), is_a_plan(stays, rooms, list(thing)))
            self.assertTrue(all_plans(stays, rooms))

    def test_by_hand(self):
        self.assertIs(is_plan(STAYS, 2, 3, [1, 1, 0]), True)
        self.assertIs(is_plan(STAYS, 3, 3, [1, 2, 0]), True)
        self.assertIs(is_plan(STAYS, 3, 3, [1, 0, 2]), True)
        self.assertIs(is_plan(STAYS, 3, 3, [0, 1, 2]), False)
        self.assertIs(is_plan(STAYS, 3, 3, [1, 0, 1]), False)
        self.assertIs(is_plan(STAYS, 3, 3, [1, 0, 0]), False)
        self.assertIs(is_plan(STAYS, 2, 3, [1, 2, 0]), False)
        self.assertIs(is_plan([], 0, 0, []), True)

    def test_other_lengths(self):
        for thing in [[], [1], [1, 1], [1, 1, 0, 0], [1, 1, 0, None]]:
            self.assertIs(is_plan(STAYS, 2, 3, thing), False)

    def test_other_kinds(self):
        for thing in NO_WHOLES + [(1, 1, 0), "110", {0: 1, 1: 1, 2: 0}, range(3), 110]:
            self.assertIs(is_plan(STAYS, 2, 3, thing), False, thing)
        for thing in NO_WHOLES:
            if thing.__class__ != list or len(thing):
                self.assertIs(is_plan([], 2, 3, thing), False, thing)

    def test_other_kinds_within(self):
        for thing in NO_WHOLES + [-1, 2, 10 ** 299]:
            for around in [[thing, 1, 0], [1, thing, 0], [1, 1, thing]]:
                self.assertIs(is_plan(STAYS, 2, 3, around), False)
        self.assertIs(is_plan([(0, 1, 1)], 2, 0, [True]), False)
        self.assertIs(is_plan([(0, 1, None)], 2, 0, [False]), False)

    def test_where_a_night_is_too_full_nothing_is_a_plan(self):
        full = [(0, 3, 0), (1, 4, None), (2, 5, None)]
        for thing in product(range(-1, 4), repeat=3):
            self.assertIs(is_plan(full, 2, 0, list(thing)), False)
        self.assertIs(is_plan([(5, 6, None)], 0, 0, [0]), False)
        self.assertIs(is_plan([(5, 6, None)], 0, 0, None), False)

    def test_refused_whatever_the_thing(self):
        for thing in [[0], None, [0, 0], "x"]:
            with self.assertRaises(NoStay) as caught:
                is_plan([(0, 3, 0), (0, 3)], 2, 0, thing)
            self.assertEqual(caught.exception.at, 1)
            with self.assertRaises(Taken) as caught:
                is_plan([(0, 3, 1), (0, 3, 1), 5], 2, 0, thing)
            self.assertEqual(caught.exception.room, 1)


class RowOfTest(unittest.TestCase):
    def test_by_hand(self):
        stays = [(9, 12, None), (0, 4, 1), (4, 6, None), (3, 5, None), (6, 9, None)]
        plan = [1, 1, 1, 0, 1]
        self.assertEqual(row_of(stays, plan, 1), [1, 2, 4, 0])
        self.assertEqual(row_of(stays, plan, 0), [3])
        for room in (2, 11, 99, -1):
            self.assertEqual(row_of(stays, plan, room), [])
        self.assertEqual(row_of([], [], 0), [])

    def test_by_words(self):
        source = random.Random(72)
        for turn in range(150):
            rooms, now = source.randint(1, 6), source.choice([0, 7])
            stays = random_stays(source, rooms, now, source.randint(0, 24), now + 20)
            plan = seated(stays, rooms, now)
            rows = [row_of(stays, plan, room) for room in range(rooms)]
            self.assertEqual(sorted(sum(rows, [])), list(range(len(stays))))
            for room, row in enumerate(rows):
                self.assertTrue(all(plan[place] == room for place in row))
                firsts = [stays[place][0] for place in row]
                self.assertEqual(firsts, sorted(firsts))


class FreeAtTest(unittest.TestCase):
    def test_by_hand(self):
        plan = [1, 1, 0]
        self.assertEqual([free_at(STAYS, plan, 2, night) for night in range(-1, 8)],
                         [[0, 1], [0], [0], [0], [], [], [0], [0, 1], [0, 1]])
        self.assertEqual(free_at(STAYS, plan, 4, 4), [2, 3])
        self.assertEqual(free_at([], [], 0, 3), [])
        self.assertEqual(free_at([], [], 3, 10 ** 299), [0, 1, 2])
        self.assertEqual(free_at(STAYS, plan, 2, -10 ** 299), [0, 1])

    def test_by_words(self):
        source = random.Random(73)
        for turn in range(150):
            rooms, now = source.randint(0, 6), source.choice([0, 7])
            stays = random_stays(source, rooms, now, source.randint(0, 24), now + 20)
            plan = seated(stays, rooms, now)
            for night in [-1, 0, now, now + 1, now + 5, now + 19, 400]:
                held = {room for stay, room in zip(stays, plan) if night in nights(stay)}
                self.assertEqual(free_at(stays, plan, rooms, night), sorted(set(range(rooms)) - held))


if __name__ == "__main__":
    unittest.main()
