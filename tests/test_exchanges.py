import random
import unittest

from nightbook.errors import NoExchange
from nightbook.exchanges import exchanged, led
from tests.papers import all_plans, is_a_plan, random_plan, random_stays

FAR = 10 ** 299
STAYS = [(0, 4, 0), (1, 3, 1), (3, 6, None), (4, 7, None), (7, 9, None), (6, 8, None)]
PLAN = [0, 1, 1, 0, 0, 1]


def by_words(stays, plan, now, night, one, other):
    """The plan behind an exchange, None where it is refused."""
    if night < now or one == other:
        return None
    for (first, behind, room), seat in zip(stays, plan):
        if seat in (one, other) and (room is not None or first < night) and behind > night:
            return None
    turned = {one: other, other: one}
    return [turned.get(seat, seat) if stay[0] >= night else seat for stay, seat in zip(stays, plan)]


class ExchangedTest(unittest.TestCase):
    def refused(self, *things):
        with self.assertRaises(NoExchange) as caught:
            exchanged(*things)
        self.assertEqual(caught.exception.night, things[3])

    def test_by_hand(self):
        self.assertEqual(exchanged(STAYS, PLAN, 2, 9, 0, 2), PLAN)
        self.assertEqual(exchanged(STAYS, PLAN, 2, 4, 0, 2), [0, 1, 1, 2, 2, 1])
        self.assertEqual(exchanged(STAYS, PLAN, 2, 4, 2, 0), [0, 1, 1, 2, 2, 1])
        self.assertEqual(exchanged(STAYS, PLAN, 2, 3, 1, 2), [0, 1, 2, 0, 0, 2])
        self.assertEqual(exchanged(STAYS, PLAN, 2, 9, 0, 1), PLAN)

    def test_both_rooms_have_stays(self):
        stays = [(0, 4, 0), (1, 4, 1), (4, 6, None), (5, 7, None), (7, 9, None)]
        self.assertEqual(exchanged(stays, [0, 1, 0, 1, 1], 2, 4, 0, 1), [0, 1, 1, 0, 0])
        self.assertEqual(exchanged(stays, [0, 1, 0, 1, 1], 2, 7, 0, 1), [0, 1, 0, 1, 0])

    def test_rooms_that_the_plan_does_not_name(self):
        self.assertEqual(exchanged(STAYS, PLAN, 2, 2, 2, 3), PLAN)
        self.assertEqual(exchanged(STAYS, PLAN, 2, 4, 0, FAR), [0, 1, 1, FAR, FAR, 1])
        self.assertEqual(exchanged([], [], 0, 0, 0, 1), [])
        self.assertEqual(exchanged([(3, 5, None)], [40], 0, 3, 40, 7), [7])
        self.assertEqual(exchanged([(3, 5, None)], [40], 0, FAR, 40, 7), [40])

    def test_a_night_ahead_of_now(self):
        for night in (1, 0, -1, -FAR):
            self.refused([(5, 6, None)], [0], 2, night, 0, 1)
            self.refused([], [], 2, night, 0, 1)
        self.assertEqual(exchanged([(5, 6, None)], [0], 2, 2, 0, 1), [1])

    def test_like_rooms(self):
        for room in (0, 1, 7, FAR):
            self.refused(STAYS, PLAN, 2, 9, room, room)

    def test_who_is_in_the_house(self):
        self.refused(STAYS, PLAN, 2, 3, 0, 2)
        self.refused(STAYS, PLAN, 2, 2, 2, 0)
        self.refused([(2, 4, 0)], [0], 2, 2, 0, 1)
        self.refused([(2, 4, 0)], [0], 2, 2, 1, 0)
        self.refused([(2, 4, 0)], [0], 2, 3, 1, 0)
        self.assertEqual(exchanged([(2, 4, 0)], [0], 2, 4, 0, 1), [0])

    def test_who_begins_ahead_and_ends_later(self):
        self.refused(STAYS, PLAN, 2, 5, 1, 2)
        self.refused(STAYS, PLAN, 2, 5, 0, 2)
        self.refused(STAYS, PLAN, 2, 7, 0, 1)
        self.assertEqual(exchanged(STAYS, PLAN, 2, 6, 1, 2), [0, 1, 1, 0, 0, 2])
        self.assertEqual(exchanged(STAYS, PLAN, 2, 7, 0, 2), [0, 1, 1, 0, 2, 1])

    def test_by_words(self):
        source = random.Random(91)
        seen = {"refused": 0, "changed": 0}
        for turn in range(1500):
            rooms, now = source.randint(1, 5), source.choice([0, 3])
            stays = random_stays(source, rooms, now, source.randint(0, 10), now + 9)
            plan = random_plan(source, stays, rooms, now)
            night, one, other = source.randint(now - 1, now + 10), source.randrange(rooms + 1), source.randrange(rooms)
            wanted = by_words(stays, plan, now, night, one, other)
            if wanted is None:
                self.refused(stays, plan, now, night, one, other)
                seen["refused"] += 1
            else:
                self.assertEqual(exchanged(stays, plan, now, night, one, other), wanted)
                if one < rooms:
                    self.assertTrue(is_a_plan(stays, rooms, wanted))
                seen["changed"] += wanted != plan
        self.assertGreater(min(seen.values()), 100, seen)


class LedTest(unittest.TestCase):
    def look(self, stays, now, plan, other):
        steps = led(stays, now, plan, other)
        self.assertIs(type(steps), list)
        self.assertLessEqual(len(steps), len([stay for stay in stays if stay[2] is None]))
        here = plan
        for step in steps:
            self.assertEqual((type(step), len(step)), (tuple, 3))
            self.assertTrue({step[1], step[2]} <= set(plan) | set(other))
            here = by_words(stays, here, now, *step)
            self.assertIsNotNone(here, (stays, now, plan, other, steps))
        self.assertEqual(here, other)
        return steps

    def test_the_same_plan(self):
        self.look(STAYS, 2, PLAN, PLAN)
        self.look([], 0, [], [])

    def test_one_stay(self):
        self.look([(3, 5, None)], 0, [0], [1])
        self.look([(3, 5, None)], 3, [11], [4])
        self.look([(399, 400, None)], 399, [1], [0])

    def test_all_pairs_of_small_plans(self):
        source = random.Random(92)
        pairs = 0
        for turn in range(60):
            rooms, now = source.randint(1, 3), source.choice([0, 3])
            stays = random_stays(source, rooms, now, source.randint(0, 5), now + 7)
            plans = all_plans(stays, rooms)
            for plan in plans[:14]:
                for other in plans[-14:]:
                    self.look(stays, now, plan, other)
                    pairs += plan != other
        self.assertGreater(pairs, 500)

    def test_twenty_four_far_apart(self):
        source = random.Random(93)
        most = 0
        for turn in range(150):
            rooms, now = source.randint(2, 12), source.choice([0, 200, 380])
            stays = random_stays(source, rooms, now, 24, now + source.choice([6, 20, 400]), tries=200)
            one, other = random_plan(source, stays, rooms, now), random_plan(source, stays, rooms, now)
            most = max(most, len(self.look(stays, now, one, other)))
        self.assertGreater(most, 12)

    def test_all_rooms_turned_round(self):
        stays = [(night, night + 1, None) for night in range(3) for room in range(8)]
        plan = [room for night in range(3) for room in range(8)]
        other = [7 - room if night != 1 else room for night in range(3) for room in range(8)]
        self.look(stays, 0, plan, other)
        self.look(stays, 0, other, plan)


if __name__ == "__main__":
    unittest.main()
