"""Asking changes nothing: neither what is handed in, nor what is told before or later."""

import copy
import random
import unittest

from nightbook.chances import chance_at, is_ladder, most_alike, rooms_from, tight
from nightbook.errors import InnError, NoExchange, NoNumber, NoRoom, NoStay, NoText, NoWish, Taken, TooFull, TooMany
from nightbook.exchanges import exchanged, led
from nightbook.house import is_name
from nightbook.ladder import admitted, is_fewest, is_full, movable
from nightbook.plans import free_at, is_plan, row_of
from nightbook.prices import best
from nightbook.ratios import is_chance, is_ratio, minus, plus, ratio, times, total, under
from nightbook.reach import is_shut, may_have, rooms_for
from nightbook.seats import fewest, seated
from nightbook.sides import is_laid, is_none, laid
from nightbook.stretches import count_at, counts, fuller, holds, is_stretch, meets, most_at_once, shared
from nightbook.tables import above, comers, least_rooms
from nightbook.texts import read_nights, read_number, read_ratio, shown_nights, shown_ratio
from nightbook.widths import least_wide, row_at
from nightbook.worth import bound_by, by_turns, cost, is_best, is_choice, worth_of

STRETCHES = [(8, 9), (0, 3), (4, 6), (3, 5), (3, 5)]
ROWS = [(2, (1, 3)), (1, (1, 2)), (4, (0, 1)), (1, (1, 1))]
TABLE = [(1, 3), (0, 1), (5, 2), (1, 6)]
RATIOS = [(3, 4), (-1, 2), (0, 1)]
LADDER = [2, 0, 1]
WISHED = [(0, 3, 1, (1, 2)), (2, 9, 3, (1, 1)), (2, 4, 1, (2, 3))]
STAYS = [(0, 4, 1), (5, 7, None), (4, 6, None), (3, 5, 0)]
WANTED = [(0, 2, 5), (0, 1, 3), (1, 3, 4), (1, 2, 2)]
PRICES = [(0, 3), (2, 4)]
GROUPS = [(0, 2, 1), (1, 3, 2)]
FULL = [(0, 2, 0), (0, 3, 1), (2, 5, None), (3, 6, None)]

ASKS = [
    (ratio, (3, -6)), (ratio, (7,)), (is_ratio, ([1, 2],)), (is_ratio, ((1, 2),)), (is_chance, ((3, 2),)),
    (plus, ((1, 2), (1, 3))), (minus, ((1, 2), (1, 3))), (times, ((1, 2), (2, 3))), (under, ((1, 2), (1, 3))),
    (total, (RATIOS,)), (total, ([],)),
    (is_stretch, ((0, 3),)), (is_stretch, ([0, 3],)), (holds, ((0, 3), 2)), (shared, ((0, 4), (3, 5))),
    (meets, ((0, 3), (3, 5))), (count_at, (STRETCHES, 4)), (most_at_once, (STRETCHES,)), (most_at_once, ([],)),
    (counts, (STRETCHES,)), (counts, ([],)), (fuller, (STRETCHES, 1)), (fuller, (STRETCHES, 0, 6)),
    (fuller, ([], -1)),
    (comers, (ROWS,)), (comers, ([],)), (above, (TABLE, 1)), (above, (TABLE, -1)), (least_rooms, (TABLE, (1, 6))),
    (most_alike, ((1, 2), 3, (1, 10))), (is_ladder, (LADDER,)), (is_ladder, ([],)), (rooms_from, (LADDER, 2)),
    (chance_at, (WISHED, 2, 1, LADDER)), (tight, (WISHED, (1, 5, 3, (1, 3)), LADDER, (1, 20))),
    (tight, (WISHED, (1, 5, 3, (1, 3)), [9, 0, 3], (1, 20))), (tight, ([], (1, 5, 1, (1, 3)), [0], (1, 20))),
    (seated, (FULL, 2)), (seated, (FULL, 5, 0)), (seated, ([], 0, 3)), (fewest, (STRETCHES,)), (fewest, ([],)),
    (is_plan, (FULL, 2, 0, [0, 1, 0, 1])), (is_plan, (FULL, 2, 0, [0, 1, 1, 0])), (is_plan, ([], 2, 0, [])),
    (row_of, (FULL, [0, 1, 0, 1], 1)), (free_at, (FULL, [0, 1, 0, 1], 3, 2)), (row_of, ([], [], 1)),
    (may_have, (FULL, 2, 0, 3, 0)), (may_have, (FULL, 2, 0, 3, 1)), (may_have, (FULL, 4, 0, 2, 3)),
    (is_shut, (FULL, 2, 0, 3, 0, [2])), (is_shut, (FULL, 2, 0, 3, 1, [3])), (rooms_for, (FULL, 3, 0, 2)),
    (rooms_for, (STAYS, 3, 3, 1)),
    (exchanged, (FULL, [0, 1, 0, 1], 0, 3, 1, 2)), (exchanged, ([], [], 0, 3, 1, 2)),
    (exchanged, (FULL, [0, 1, 0, 1], 0, 6, 0, 1)),
    (led, (FULL, 0, [0, 1, 0, 1], [0, 1, 2, 0])), (led, (FULL, 0, [0, 1, 0, 1], [0, 1, 0, 1])),
    (best, (WANTED, [1, 2, 1])), (best, ([], [])), (is_choice, (WANTED, [1, 2, 1], [1, 2])), (cost, (PRICES, 0, 2)),
    (is_best, (WANTED, [1, 2, 1], [0, 3], PRICES)), (bound_by, (WANTED, [1, 2, 1], PRICES)),
    (worth_of, (WANTED, [1, 3])),
    (by_turns, (WANTED, [1, 2, 1])), (by_turns, ([], [])),
    (admitted, ([1, 2, 3], {1: 1, 2: 2}, 3)), (admitted, ([1, 2, 3], {1: 2, 2: 3}, 3)), (admitted, ([1], {}, 1)),
    (is_fewest, ([1, 2, 3], {1: 1, 2: 2}, 3, [(1, 0), (2, 1)], [3, 2, 1])), (is_full, ([1, 2], {1: 2}, 2, 2)),
    (movable, ([1, 2, 3], {1: 1, 2: 2})), (movable, ([], {})),
    (is_name, ("ann",)), (is_name, (["ann"],)), (laid, ([0, 4, 0], [(2, 5, 2)])), (laid, ([0, 4, 0], [(4, 6, 2)])),
    (laid, ([0, 0], GROUPS)), (laid, ([0, 0], [])), (is_laid, ([0, 0, 0], GROUPS, [0, 1])),
    (is_none, ([0, 0], GROUPS, [[(0, 2), (2, 0)], []])), (least_wide, (GROUPS,)), (least_wide, ([],)),
    (least_wide, ([(0, 3, 4), (2, 5, 3)],)), (row_at, (3, GROUPS, [0, 1], 1)),
    (read_number, ("12",)), (read_ratio, ("1/20",)), (read_nights, ("3-7",)), (shown_ratio, ((1, 20),)),
    (shown_nights, ((3, 7),)),
]
REFUSED = [
    (NoNumber, ratio, (1, 0)), (NoNumber, ratio, ("1", 2)), (NoNumber, ratio, (True,)), (NoNumber, ratio, (1, None)),
    (NoStay, seated, (STAYS, 3, 4)), (Taken, seated, ([(0, 2, 0), (0, 3, 0)], 2)),
    (TooFull, seated, ([(1, 2, None)] * 2, 1, 0)),
    (NoStay, is_plan, (FULL + [None], 2, 0, [0])), (Taken, is_plan, (FULL + [(0, 1, 1)], 2, 0, [])),
    (NoStay, may_have, (FULL, 2, 0, 0, 0)), (NoRoom, may_have, (FULL, 2, 0, 2, 2)),
    (NoStay, rooms_for, (FULL, 2, 0, 4)),
    (NoRoom, is_shut, (FULL, 2, 0, 2, -1, [])), (TooFull, rooms_for, ([(1, 2, None)] * 2, 1, 0, 0)),
    (NoExchange, exchanged, (FULL, [0, 1, 0, 1], 0, 1, 0, 2)),
    (NoExchange, exchanged, (FULL, [0, 1, 0, 1], 0, 6, 2, 2)),
    (NoWish, best, (WANTED, [1, 2])), (NoWish, is_choice, (WANTED, [1, 2], [])), (NoWish, by_turns, (WANTED, [])),
    (NoWish, is_best, (WANTED, [1, 2], [], [])), (NoWish, bound_by, (WANTED, [1, 2], PRICES)),
    (NoWish, laid, ([0], GROUPS + [None])), (NoWish, least_wide, (GROUPS + [(0, 1, 7)],)),
    (NoWish, is_laid, ([0], GROUPS + [[]], [])), (NoWish, is_none, ([0], [()], [])),
    (TooMany, laid, ([0] * 6, [(0, 50 + place, 1) for place in range(6)])),
    (NoText, read_number, ("012",)), (NoText, read_ratio, ("2/4",)), (NoText, read_nights, (["3-7"],)),
]


def lists_in(thing):
    """All lists and dicts within a thing, those within others first."""
    found = []
    if isinstance(thing, (list, tuple)):
        found = [inner for part in thing for inner in lists_in(part)]
    if isinstance(thing, dict):
        found = [inner for part in thing.values() for inner in lists_in(part)]
    return found + ([thing] if isinstance(thing, (list, dict)) else [])


def spoil(thing):
    for inner in lists_in(thing):
        if isinstance(inner, dict):
            inner.clear()
            inner["other"] = "other"
        else:
            inner.reverse()
            inner.append("more")
            inner[0] = "other"


class AskingTest(unittest.TestCase):
    def test_what_is_handed_in_stays(self):
        for ask, things in ASKS:
            kept = copy.deepcopy(things)
            ask(*things)
            self.assertEqual(things, kept, ask)

    def test_the_same_however_often_and_in_whatever_order(self):
        wanted = [ask(*copy.deepcopy(things)) for ask, things in ASKS]
        source = random.Random(41)
        for turn in range(20):
            order = list(range(len(ASKS))) * 2
            source.shuffle(order)
            for place in order:
                ask, things = ASKS[place]
                self.assertEqual(ask(*things), wanted[place], ask)

    def test_what_is_told_is_new_each_time(self):
        for ask, things in ASKS:
            one, other = ask(*things), ask(*things)
            told = lists_in(one)
            self.assertEqual(len({id(inner) for inner in told}), len(told), ask)
            for inner in told:
                for strange in lists_in(other) + lists_in(things):
                    self.assertIsNot(inner, strange, ask)

    def test_a_change_of_what_is_told_changes_nothing(self):
        for ask, things in ASKS:
            kept = copy.deepcopy(things)
            told = ask(*things)
            wanted = copy.deepcopy(told)
            later = ask(*things)
            spoil(told)
            self.assertEqual(later, wanted, ask)
            self.assertEqual(ask(*things), wanted, ask)
            self.assertEqual(things, kept, ask)

    def test_a_change_of_what_was_handed_in_changes_nothing_told(self):
        for ask, things in ASKS:
            own = copy.deepcopy(things)
            told = ask(*own)
            wanted = copy.deepcopy(told)
            spoil(own)
            self.assertEqual(told, wanted, ask)
            self.assertEqual(ask(*things), wanted, ask)

    def test_a_list_handed_in_again_is_read_anew(self):
        stretches = [(0, 3)]
        self.assertEqual(counts(stretches), [(0, 3, 1)])
        self.assertEqual(most_at_once(stretches), (1, 0))
        stretches.append((2, 5))
        self.assertEqual(counts(stretches), [(0, 2, 1), (2, 3, 2), (3, 5, 1)])
        self.assertEqual(most_at_once(stretches), (2, 2))
        self.assertEqual(fuller(stretches, 1), 2)
        self.assertEqual(count_at(stretches, 2), 2)
        rows = [(1, (1, 2))]
        self.assertEqual(comers(rows), [(1, 2), (1, 2)])
        rows[0] = (1, (1, 3))
        self.assertEqual(comers(rows), [(2, 3), (1, 3)])
        table = [(1, 2), (1, 2)]
        self.assertEqual((above(table, 0), least_rooms(table, (1, 4)), total(table)), ((1, 2), 1, (1, 1)))
        table[1] = (1, 4)
        self.assertEqual((above(table, 0), least_rooms(table, (1, 4)), total(table)), ((1, 4), 0, (3, 4)))

    def test_what_is_refused_stays_and_changes_nothing(self):
        wanted = [ask(*things) for ask, things in ASKS]
        for error, call, things in REFUSED:
            kept = copy.deepcopy(things)
            for turn in range(2):
                with self.assertRaises(InnError) as caught:
                    call(*things)
                self.assertIs(type(caught.exception), error)
            self.assertEqual(things, kept, call)
        self.assertEqual([ask(*things) for ask, things in ASKS], wanted)


if __name__ == "__main__":
    unittest.main()
