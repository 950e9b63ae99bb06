"""Asking changes nothing: neither what is handed in, nor what is told before or later."""

import copy
import random
import unittest

from nightbook.errors import NoNumber
from nightbook.ratios import is_chance, is_ratio, minus, plus, ratio, times, total, under
from nightbook.stretches import count_at, counts, fuller, holds, is_stretch, meets, most_at_once, shared
from nightbook.tables import above, comers, least_rooms

STRETCHES = [(8, 9), (0, 3), (4, 6), (3, 5), (3, 5)]
ROWS = [(2, (1, 3)), (1, (1, 2)), (4, (0, 1)), (1, (1, 1))]
TABLE = [(1, 3), (0, 1), (5, 2), (1, 6)]
RATIOS = [(3, 4), (-1, 2), (0, 1)]

ASKS = [
    (ratio, (3, -6)), (ratio, (7,)), (is_ratio, ([1, 2],)), (is_ratio, ((1, 2),)), (is_chance, ((3, 2),)),
    (plus, ((1, 2), (1, 3))), (minus, ((1, 2), (1, 3))), (times, ((1, 2), (2, 3))), (under, ((1, 2), (1, 3))),
    (total, (RATIOS,)), (total, ([],)),
    (is_stretch, ((0, 3),)), (is_stretch, ([0, 3],)), (holds, ((0, 3), 2)), (shared, ((0, 4), (3, 5))),
    (meets, ((0, 3), (3, 5))), (count_at, (STRETCHES, 4)), (most_at_once, (STRETCHES,)), (most_at_once, ([],)),
    (counts, (STRETCHES,)), (counts, ([],)), (fuller, (STRETCHES, 1)), (fuller, (STRETCHES, 0, 6)),
    (fuller, ([], -1)),
    (comers, (ROWS,)), (comers, ([],)), (above, (TABLE, 1)), (above, (TABLE, -1)), (least_rooms, (TABLE, (1, 6))),
]
TELL_LISTS = [(counts, (STRETCHES,)), (counts, ([],)), (comers, (ROWS,)), (comers, ([],))]


class AskingTest(unittest.TestCase):
    def test_what_is_handed_in_stays(self):
        for ask, things in ASKS:
            kept = copy.deepcopy(things)
            ask(*things)
            self.assertEqual(things, kept, ask)

    def test_the_same_however_often_and_in_whatever_order(self):
        wanted = [ask(*copy.deepcopy(things)) for ask, things in ASKS]
        source = random.Random(41)
        for turn in range(20):
            order = list(range(len(ASKS))) * 2
            source.shuffle(order)
            for place in order:
                ask, things = ASKS[place]
                self.assertEqual(ask(*things), wanted[place], ask)

    def test_what_is_told_is_new_each_time(self):
        for ask, things in TELL_LISTS:
            one, other = ask(*things), ask(*things)
            self.assertIsNot(one, other)
            self.assertIsNot(one, things[0])

    def test_a_change_of_what_is_told_changes_nothing(self):
        for ask, things in TELL_LISTS:
            kept = copy.deepcopy(things)
            told = ask(*things)
            wanted = list(told)
            later = ask(*things)
            told.reverse()
            told.append("more")
            told[0] = "other"
            self.assertEqual(later, wanted)
            self.assertEqual(ask(*things), wanted)
            self.assertEqual(things, kept)

    def test_a_change_of_what_was_handed_in_changes_nothing_told(self):
        for ask, things in ASKS:
            own = copy.deepcopy(things)
            told = ask(*own)
            wanted = copy.deepcopy(told)
            for thing in own:
                if isinstance(thing, list):
                    thing.clear()
                    thing.append("other")
            self.assertEqual(told, wanted)
            self.assertEqual(ask(*things), wanted)

    def test_a_list_handed_in_again_is_read_anew(self):
        stretches = [(0, 3)]
        self.assertEqual(counts(stretches), [(0, 3, 1)])
        self.assertEqual(most_at_once(stretches), (1, 0))
        stretches.append((2, 5))
        self.assertEqual(counts(stretches), [(0, 2, 1), (2, 3, 2), (3, 5, 1)])
        self.assertEqual(most_at_once(stretches), (2, 2))
        self.assertEqual(fuller(stretches, 1), 2)
        self.assertEqual(count_at(stretches, 2), 2)
        rows = [(1, (1, 2))]
        self.assertEqual(comers(rows), [(1, 2), (1, 2)])
        rows[0] = (1, (1, 3))
        self.assertEqual(comers(rows), [(2, 3), (1, 3)])
        table = [(1, 2), (1, 2)]
        self.assertEqual((above(table, 0), least_rooms(table, (1, 4)), total(table)), ((1, 2), 1, (1, 1)))
        table[1] = (1, 4)
        self.assertEqual((above(table, 0), least_rooms(table, (1, 4)), total(table)), ((1, 4), 0, (3, 4)))

    def test_a_refusal_changes_nothing(self):
        for ask, things in ASKS:
            wanted = ask(*things)
            for wrong in [(1, 0), ("1", 2), (True,), (1, None)]:
                self.assertRaises(NoNumber, ratio, *wrong)
            self.assertEqual(ask(*things), wanted)


if __name__ == "__main__":
    unittest.main()
