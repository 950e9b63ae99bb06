import random
import unittest

from nightbook.errors import NoStay, Taken, TooFull
from nightbook.plans import is_plan
from nightbook.seats import fewest, seated
from tests.oddities import NO_WHOLES
from tests.papers import is_a_plan, nights, random_stays, refusal

FAR = 10 ** 299


class SeatedTest(unittest.TestCase):
    def test_nobody(self):
        for rooms in (0, 1, 12):
            for now in (0, 5, 399):
                self.assertEqual(seated([], rooms, now), [])

    def test_now_is_0_where_left_out(self):
        self.assertEqual(seated([(0, 2, None), (0, 2, 0)], 2), [1, 0])
        self.assertEqual(seated([(0, 3, None)], 1), [0])
        self.assertRaises(NoStay, seated, [(1, 3, 0)], 1)
        self.assertEqual(seated(stays=[(4, 6, 1)], rooms=2, now=5), [1])

    def test_who_is_in_the_house_keeps_its_room(self):
        stays = [(3, 6, None), (0, 4, 2), (5, 9, None), (2, 8, 0), (3, 5, None)]
        plan = seated(stays, 4, 3)
        self.assertEqual((plan[1], plan[3]), (2, 0))
        self.assertTrue(is_a_plan(stays, 4, plan))

    def test_one_behind_the_other_in_one_room(self):
        stays = [(6, 400, None), (0, 3, 0), (3, 4, None), (4, 6, None)]
        self.assertEqual(seated(stays, 1, 2), [0, 0, 0, 0])

    def test_the_last_nights(self):
        self.assertEqual(seated([(399, 400, None)], 1, 399), [0])
        self.assertEqual(seated([(0, 400, 0)], 1, 399), [0])
        self.assertEqual(seated([(0, 400, 0), (399, 400, None)], 2, 399), [0, 1])

    def test_all_that_are_not_refused_have_a_plan(self):
        source = random.Random(61)
        many_seen = set()
        for turn in range(400):
            rooms, now = source.randint(0, 12), source.choice([0, 0, 3, 200, 390, 399])
            stays = random_stays(source, rooms, now, source.randint(0, 24), now + source.choice([2, 6, 15, 400]))
            plan = seated(stays, rooms, now)
            self.assertTrue(is_a_plan(stays, rooms, plan), (stays, rooms, now))
            self.assertIs(is_plan(stays, rooms, now, plan), True)
            many_seen.add(len(stays))
        self.assertIn(24, many_seen)

    def test_rooms_full_on_each_night(self):
        stays = [(night + room % 3, night + room % 3 + 3, None) for room in range(12) for night in (0, 3)]
        self.assertEqual(len(stays), 24)
        self.assertTrue(is_a_plan(stays, 12, seated(stays, 12)))
        self.assertRaises(TooFull, seated, stays, 11)

    def test_more_than_the_bounds(self):
        stays = [(night, night + 2, None) for night in range(0, 60)]
        self.assertTrue(is_a_plan(stays, 14, seated(stays, 14)))


class RefusedTest(unittest.TestCase):
    def test_no_stays(self):
        for thing in [(0, 3), (0, 3, None, None), [0, 3, None], "abc", None, 3, (), ((0, 3), None),
                      (3, 3, None), (4, 3, None), (-1, 3, None), (0, 401, None), (True, 3, None), (0, True, None),
                      ("0", 3, None), (0, 3.0, None), (None, None, None)]:
            self.assertEqual(refusal(seated, [thing], 3, 0), ("NoStay", 0), thing)
            self.assertEqual(refusal(is_plan, [thing], 3, 0, [0]), ("NoStay", 0), thing)

    def test_things_of_every_other_kind(self):
        for thing in NO_WHOLES:
            self.assertEqual(refusal(seated, [(0, 3, None), thing], 3, 0), ("NoStay", 1))
            for around in [(thing, 3, None), (0, thing, None), (0, 3, thing), (thing, thing, thing)]:
                if thing is not None or around[0] is None or around[1] is None:
                    self.assertEqual(refusal(seated, [(0, 3, None), around], 3, 0), ("NoStay", 1), thing)

    def test_rooms_that_there_are_not(self):
        for room in (-1, 3, 4, 12, FAR, -FAR, True, False, "0", 1.0):
            self.assertEqual(refusal(seated, [(0, 3, room)], 3, 0), ("NoStay", 0), room)
        self.assertEqual(refusal(seated, [(0, 3, 0)], 0, 0), ("NoStay", 0))
        self.assertEqual(refusal(seated, [(0, 3, 11)], 12, 0), ("told", [11]))

    def test_a_room_and_not_now(self):
        for stay in [(0, 5, 1), (0, 3, 1), (6, 9, 1), (7, 8, 1)]:
            self.assertEqual(refusal(seated, [stay], 3, 5), ("NoStay", 0), stay)
        for stay in [(0, 6, 1), (5, 6, 1), (5, 400, 1)]:
            self.assertEqual(refusal(seated, [stay], 3, 5), ("told", [1]), stay)

    def test_none_and_ahead_of_now(self):
        for stay in [(4, 6, None), (0, 400, None), (0, 5, None)]:
            self.assertEqual(refusal(seated, [stay], 3, 5), ("NoStay", 0), stay)
        for stay in [(5, 6, None), (6, 7, None), (399, 400, None)]:
            self.assertEqual(refusal(seated, [stay], 3, 5)[0], "told", stay)

    def test_taken(self):
        stays = [(0, 3, 1), (0, 2, None), (0, 5, 2), (0, 5, 1)]
        self.assertEqual(refusal(seated, stays, 4, 0), ("Taken", 1))
        self.assertEqual(refusal(is_plan, stays, 4, 0, [1, 0, 2, 1]), ("Taken", 1))
        self.assertEqual(refusal(seated, [(0, 3, 0), (0, 1, 0)], 4, 0), ("Taken", 0))

    def test_too_full_now_and_later(self):
        self.assertEqual(refusal(seated, [(5, 6, None)] * 3, 2, 5), ("TooFull", 5))
        self.assertEqual(refusal(seated, [(0, 9, 0), (5, 6, None)], 1, 5), ("TooFull", 5))
        self.assertEqual(refusal(seated, [(0, 9, 0), (8, 9, None), (6, 7, None)], 1, 5), ("TooFull", 6))
        self.assertEqual(refusal(seated, [(399, 400, None)] * 2, 1, 0), ("TooFull", 399))
        self.assertEqual(refusal(seated, [(7, 8, None)], 0, 0), ("TooFull", 7))
        self.assertEqual(refusal(seated, [(0, 3, None)] * 24, 23, 0), ("TooFull", 0))

    def test_the_least_night_that_is_too_full(self):
        source = random.Random(62)
        seen = 0
        for turn in range(300):
            rooms, now = source.randint(0, 4), source.choice([0, 3, 300])
            stays = random_stays(source, 12, now, source.randint(0, 12), now + 8)
            stays = [stay for stay in stays if stay[2] is None or stay[2] < rooms]
            full = [night for night in range(now, 400) if sum(night in nights(stay) for stay in stays) > rooms]
            told = refusal(seated, stays, rooms, now)
            self.assertEqual(told[0] == "TooFull", bool(full))
            if full:
                self.assertEqual(told[1], full[0])
                seen += 1
        self.assertGreater(seen, 50)

    def test_several_at_once(self):
        bad, again, full = (3, 3, None), (0, 3, 0), (0, 3, None)
        self.assertEqual(refusal(seated, [(0, 3, 0), again, bad], 1, 0), ("Taken", 0))
        self.assertEqual(refusal(seated, [(0, 3, 0), bad, again], 1, 0), ("NoStay", 1))
        self.assertEqual(refusal(seated, [full, full, bad], 1, 0), ("NoStay", 2))
        self.assertEqual(refusal(seated, [full, (0, 3, 0), again], 1, 0), ("Taken", 0))
        self.assertEqual(refusal(seated, [full, full, (0, 3, 0)], 1, 0), ("TooFull", 0))
        self.assertEqual(refusal(seated, [(0, 3, 1), (0, 9, 1), (0, 9, 0), (0, 9, 0)], 2, 0), ("Taken", 1))
        # The same room and not now: of one stay what is no such tuple goes first.
        self.assertEqual(refusal(seated, [(4, 9, 0), (0, 3, 0)], 1, 5), ("NoStay", 1))

    def test_made_good_it_is_taken(self):
        stays = [(0, 3, 0), (0, 3, 0), None]
        self.assertRaises(Taken, seated, stays, 2, 0)
        stays[1] = (0, 3, None)
        self.assertRaises(NoStay, seated, stays, 2, 0)
        stays[2] = (3, 4, None)
        self.assertTrue(is_a_plan(stays, 2, seated(stays, 2, 0)))


class FewestTest(unittest.TestCase):
    def told(self, stretches):
        told = fewest(stretches)
        self.assertIs(type(told), tuple)
        rooms, plan, night = told
        stays = [(first, behind, None) for first, behind in stretches]
        self.assertTrue(is_a_plan(stays, rooms, plan), stretches)
        counts = [sum(here in nights(stay) for stay in stays) for here in range(400)]
        self.assertEqual(rooms, max(counts))
        self.assertEqual(night, counts.index(rooms))
        return told

    def test_none(self):
        self.assertEqual(fewest([]), (0, [], 0))

    def test_one(self):
        self.assertEqual(fewest([(7, 9)]), (1, [0], 7))
        self.assertEqual(fewest([(399, 400)]), (1, [0], 399))
        self.assertEqual(fewest([(0, 400)]), (1, [0], 0))

    def test_alike_ones(self):
        for many in (1, 2, 12, 13, 24):
            rooms, plan, night = self.told([(3, 5)] * many)
            self.assertEqual((rooms, sorted(plan), night), (many, list(range(many)), 3))

    def test_one_behind_the_other(self):
        self.assertEqual(self.told([(3, 5), (0, 3), (5, 400)]), (1, [0, 0, 0], 0))

    def test_some(self):
        self.assertEqual(self.told([(0, 3), (3, 5), (4, 6), (8, 9)])[::2], (2, 4))

    def test_many(self):
        source = random.Random(63)
        for turn in range(300):
            last = source.choice([3, 8, 40, 400])
            stretches = []
            for place in range(source.randint(1, 24)):
                first = source.randrange(last)
                stretches.append((first, source.randint(first + 1, last)))
            rooms, plan, night = self.told(stretches)
            self.assertRaises(TooFull, seated, [stretch + (None,) for stretch in stretches], rooms - 1)


if __name__ == "__main__":
    unittest.main()
