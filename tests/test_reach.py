import random
import unittest
from itertools import combinations

from nightbook.reach import is_shut, may_have, rooms_for
from tests.oddities import NO_WHOLES
from tests.papers import all_plans, beginning, is_a_plan, random_stays, refusal, shuts

FAR = 10 ** 299
HOUSE = [(0, 4, 0), (2, 6, 1), (4, 6, None), (6, 8, None), (4, 9, None)]


class PaperTest(unittest.TestCase):
    def look(self, stays, rooms, now, who, room):
        """Looks at the paper itself; tells whether it is a yes."""
        told = may_have(stays, rooms, now, who, room)
        self.assertIs(type(told), tuple)
        if told[0] == "no":
            self.assertEqual(len(told), 2)
            self.assertTrue(shuts(stays, rooms, now, who, room, told[1]), (stays, rooms, now, who, room, told))
            self.assertIs(is_shut(stays, rooms, now, who, room, told[1]), True)
            return False
        word, chain, plan = told
        self.assertEqual(word, "yes")
        self.assertTrue(is_a_plan(stays, rooms, plan), (stays, rooms, now, who, room, told))
        self.assertEqual(plan[who], room)
        ahead = [place for place, stay in enumerate(stays)
                 if stay[2] is None and plan[place] == room and stay[0] < stays[who][0]]
        self.assertEqual(chain, sorted(ahead, key=lambda place: stays[place][0]))
        return True


class MayHaveTest(PaperTest):
    def test_by_hand(self):
        self.assertEqual(may_have([(0, 3, None)], 1, 0, 0, 0), ("yes", [], [0]))
        self.assertEqual(may_have([(0, 2, None), (2, 3, None)], 1, 0, 1, 0), ("yes", [0], [0, 0]))
        self.assertEqual(may_have([(0, 4, 0), (2, 6, None)], 2, 0, 1, 0), ("no", []))
        self.assertEqual(may_have([(0, 4, 0), (4, 6, None)], 1, 0, 1, 0), ("yes", [], [0, 0]))

    def test_a_room_that_is_shut_by_nights(self):
        # Both rooms are held on nights 0 to 3; whoever leaves room 0 on night 2 must be followed at once.
        stays = [(0, 2, 0), (0, 3, 1), (2, 5, None), (3, 6, None)]
        self.assertEqual(may_have(stays, 2, 0, 3, 0), ("no", [2]))
        self.assertTrue(self.look(stays, 2, 0, 3, 1))
        self.assertEqual(rooms_for(stays, 2, 0, 3), [1])
        self.assertEqual(rooms_for(stays, 2, 0, 2), [0])

    def test_the_beginning_is_the_first_night(self):
        self.assertEqual(may_have(HOUSE, 3, 3, 2, 0)[:2], ("yes", []))
        self.assertEqual(may_have(HOUSE, 3, 3, 2, 1), ("no", []))
        self.assertEqual(may_have(HOUSE, 3, 3, 3, 1)[:2], ("yes", []))

    def test_all_small_ones_by_all_plans(self):
        source = random.Random(81)
        seen = {"yes": 0, "no": 0, "later": 0}
        for turn in range(400):
            rooms, now = source.randint(1, 4), source.choice([0, 0, 3])
            stays = random_stays(source, rooms, now, source.randint(1, 6), now + source.choice([3, 6, 9]))
            plans = all_plans(stays, rooms)
            for who, stay in enumerate(stays):
                if stay[2] is not None:
                    continue
                found = {plan[who] for plan in plans}
                for room in range(rooms):
                    yes = self.look(stays, rooms, now, who, room)
                    self.assertEqual(yes, room in found, (stays, rooms, now, who, room))
                    seen["yes" if yes else "no"] += 1
                    seen["later"] += beginning(stays, now, room) > stay[0]
                self.assertEqual(rooms_for(stays, rooms, now, who), sorted(found))
        self.assertTrue(min(seen.values()) > 50, seen)

    def test_full_houses_of_twenty_four(self):
        source = random.Random(82)
        seen = set()
        for turn in range(60):
            rooms, now = source.randint(2, 12), source.choice([0, 100, 380])
            stays = random_stays(source, rooms, now, 24, now + source.choice([6, 15, 60]), tries=300)
            for who, stay in enumerate(stays):
                if stay[2] is None and source.random() < 0.3:
                    yes = [room for room in range(rooms) if self.look(stays, rooms, now, who, room)]
                    self.assertEqual(rooms_for(stays, rooms, now, who), yes)
                    self.assertTrue(yes)
                    seen.add(len(yes) < rooms)
        self.assertEqual(seen, {True, False})

    def test_long_stays_and_the_last_nights(self):
        stays = [(0, 399, 0), (0, 400, 1), (399, 400, None)]
        self.assertTrue(self.look(stays, 2, 0, 2, 0))
        self.assertFalse(self.look(stays, 2, 0, 2, 1))
        self.assertEqual(rooms_for(stays, 2, 0, 2), [0])
        self.assertEqual(rooms_for([(399, 400, None)], 12, 399, 0), list(range(12)))
        self.assertEqual(rooms_for([(399, 400, None)], 12, 0, 0), list(range(12)))

    def test_alike_stays(self):
        stays = [(2, 4, None)] * 3 + [(4, 6, None)]
        for who in range(4):
            self.assertEqual(rooms_for(stays, 3, 0, who), [0, 1, 2])


class RefusedTest(unittest.TestCase):
    CALLS = [(may_have, ()), (is_shut, ([],)), (is_shut, (None,))]

    def each(self, stays, rooms, now, who, room, wanted):
        for call, more in self.CALLS:
            self.assertEqual(refusal(call, stays, rooms, now, who, room, *more), wanted)
        if wanted[0] != "NoRoom":
            self.assertEqual(refusal(rooms_for, stays, rooms, now, who), wanted)

    def test_each_alone(self):
        self.each([(0, 3, None), (0, 3)], 2, 0, 0, 0, ("NoStay", 1))
        self.each([(4, 6, None), (3, 4, None)], 2, 4, 0, 0, ("NoStay", 1))
        self.each([(0, 3, 1), (0, 3, 1), (3, 4, None)], 2, 0, 2, 0, ("Taken", 1))
        self.each([(3, 5, None)] * 3, 2, 0, 0, 0, ("TooFull", 3))
        self.each([(7, 8, None)], 0, 0, 0, 0, ("TooFull", 7))
        for who in (-1, -2, 5, 6, 0, 1, FAR, -FAR):
            self.each(HOUSE, 3, 3, who, 0, ("NoStay", who))
        for room in (-1, 3, 4, FAR, -FAR):
            self.each(HOUSE, 3, 3, 2, room, ("NoRoom", room))
        self.each([], 3, 0, 0, 0, ("NoStay", 0))

    def test_several_at_once(self):
        self.each([(0, 3, 0), (0, 3, 0), None], 1, 0, 9, 9, ("Taken", 0))
        self.each([None, (0, 3, 0), (0, 3, 0)], 1, 0, 9, 9, ("NoStay", 0))
        self.each([(0, 3, None)] * 2, 1, 0, 9, 9, ("TooFull", 0))
        self.each([(0, 3, None)] * 2, 2, 0, 9, 9, ("NoStay", 9))
        self.each([(0, 3, None), (0, 3, 1)], 2, 0, 1, 9, ("NoStay", 1))
        self.each([(0, 3, None)], 0, 0, 0, 0, ("TooFull", 0))

    def test_things_of_every_other_kind(self):
        for thing in NO_WHOLES:
            self.each([(0, 3, None), thing], 3, 0, 0, 0, ("NoStay", 1))


class IsShutTest(unittest.TestCase):
    def test_all_lists_of_some_nights(self):
        source = random.Random(83)
        seen = {True: 0, False: 0}
        for turn in range(300):
            rooms, now = source.randint(1, 3), source.choice([0, 2])
            stays = random_stays(source, rooms, now, source.randint(1, 9), now + 6, tries=100)
            coming = [place for place, stay in enumerate(stays) if stay[2] is None]
            if not coming:
                continue
            who, room = source.choice(coming), source.randrange(rooms)
            near = range(max(0, now - 1), now + 7)
            for many in range(len(near) + 1):
                for listed in combinations(near, many):
                    wanted = shuts(stays, rooms, now, who, room, list(listed))
                    self.assertIs(is_shut(stays, rooms, now, who, room, list(listed)), wanted)
                    seen[wanted] += 1
            any_shut = [listed for many in range(len(near) + 1) for listed in combinations(near, many)
                        if is_shut(stays, rooms, now, who, room, list(listed))]
            self.assertEqual(bool(any_shut), may_have(stays, rooms, now, who, room)[0] == "no")
        self.assertGreater(seen[True], 40)

    def test_other_orders_and_twice(self):
        stays = [(0, 2, 0), (0, 5, 1), (2, 4, None), (4, 6, None), (5, 7, None)]
        self.assertEqual(may_have(stays, 2, 0, 4, 0), ("no", [2, 4]))
        self.assertIs(is_shut(stays, 2, 0, 4, 0, [2, 4]), True)
        for listed in [[4, 2], [2, 2, 4], [2, 4, 4], [2], [4], [], [2, 3], [2, 4, 5], [1, 2, 4], [2, 4, 6], [0, 2, 4],
                       [2, 4, 400], [-1, 2, 4], [2, 4, FAR]]:
            self.assertIs(is_shut(stays, 2, 0, 4, 0, listed), False, listed)
        # A tight night more from which nothing else begins leads on to nothing.
        self.assertIs(is_shut(stays, 2, 0, 4, 0, [2, 3, 4]), True)

    def test_things_of_every_other_kind(self):
        stays = [(0, 2, 0), (0, 3, 1), (2, 5, None), (3, 6, None)]
        self.assertIs(is_shut(stays, 2, 0, 3, 0, [2]), True)
        for thing in NO_WHOLES + [(2,), {2: 2}, "2", 2, [2.0], ["2"], [(2,)], [[2]]]:
            self.assertIs(is_shut(stays, 2, 0, 3, 0, thing), False, thing)
            self.assertIs(is_shut(stays, 2, 0, 3, 0, [2, thing]), False, thing)
        shut_by_none = [(0, 4, 0), (2, 6, None)]
        self.assertIs(is_shut(shut_by_none, 2, 0, 1, 0, []), True)
        for thing in NO_WHOLES + [[0], [4], [2]]:
            if thing.__class__ != list or len(thing):
                self.assertIs(is_shut(shut_by_none, 2, 0, 1, 0, thing), False, thing)
        # A truth is no night, though Python holds it for 1.
        ones = [(0, 1, 0), (0, 2, 1), (1, 5, None), (2, 6, None)]
        self.assertIs(is_shut(ones, 2, 0, 3, 0, [1]), True)
        self.assertIs(is_shut(ones, 2, 0, 3, 0, [True]), False)


if __name__ == "__main__":
    unittest.main()
