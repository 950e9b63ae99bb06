import random
import unittest

from nightbook.sides import laid
from nightbook.widths import least_wide, row_at
from tests.oddities import NO_WHOLES
from tests.papers import all_places, are_places, leads_to_nothing, lists_by_words, nights, refusal
from tests.test_sides import random_groups


class LeastWideTest(unittest.TestCase):
    def look(self, groups):
        """Looks at the paper itself; tells how wide, None where six are too few, "many" where it is refused."""
        told, ahead = refusal(least_wide, groups), []
        for wide in range(1, 7):
            lists, too_many = lists_by_words([0] * wide, groups)
            if too_many is not None:
                self.assertEqual(told, ("TooMany", too_many))
                return "many"
            if lists[-1]:
                word, found, places, paper = told[1]
                self.assertEqual((word, found, paper), ("wide", wide, ahead))
                self.assertTrue(are_places([0] * wide, groups, places))
                self.assertTrue(wide == 1 or leads_to_nothing([0] * (wide - 1), groups, paper))
                return wide
            ahead = lists
        self.assertEqual(told, ("told", ("none", ahead)))
        self.assertTrue(leads_to_nothing([0] * 6, groups, ahead))
        return None

    def test_no_groups(self):
        self.assertEqual(least_wide([]), ("wide", 0, [], []))

    def test_by_hand(self):
        self.assertEqual(least_wide([(0, 3, 1)]), ("wide", 1, [0], []))
        self.assertEqual(least_wide([(0, 3, 2)]), ("wide", 2, [0], [[]]))
        self.assertEqual(least_wide([(399, 400, 6)]), ("wide", 6, [0], [[]]))
        self.assertEqual(least_wide([(0, 3, 4), (2, 5, 3)]),
                         ("none", [[(0, 0, 3, 3, 3, 3), (0, 3, 3, 3, 3, 0), (3, 3, 3, 3, 0, 0)], []]))
        self.assertEqual(self.look([(0, 3, 1), (3, 5, 1), (5, 400, 1)]), 1)
        self.assertEqual(self.look([(0, 3, 3), (2, 5, 3)]), 6)

    def test_small_ones(self):
        source = random.Random(151)
        seen = set()
        for turn in range(200):
            groups = random_groups(source, source.randint(1, 4), 5, 3)
            wide = self.look(groups)
            seen.add(wide)
            if wide is not None and wide != "many" and wide < 5:
                self.assertTrue(all_places([0] * wide, groups))
                self.assertFalse(all_places([0] * (wide - 1), groups))
        self.assertTrue({1, 2, 3, 4, 5, 6, None} <= seen, seen)

    def test_sixteen_groups(self):
        source = random.Random(152)
        seen = set()
        for turn in range(60):
            groups = random_groups(source, 16, source.choice([12, 40, 400]), 2)
            groups = [(first, min(behind, first + 4), many) for first, behind, many in groups]
            seen.add(self.look(groups))
        self.assertGreater(len(seen), 3)

    def test_too_many_rows_at_a_lesser_number(self):
        single = [(0, 50 + place, 1) for place in range(6)]
        self.assertEqual(self.look(single[:5]), 5)
        # Five rooms don't do, and six have more rows than are kept.
        self.assertEqual(laid([0] * 5, single)[0], "none")
        self.assertEqual(self.look(single), "many")
        self.assertEqual(refusal(least_wide, single), ("TooMany", 5))
        self.assertEqual(refusal(least_wide, single + [(0, 1, 1)]), ("TooMany", 5))

    def test_numbers_of_rooms_behind_the_first_are_not_looked_at(self):
        # With five rooms there are places; with six there would be more rows than are kept.
        single = [(0, 50 + place, 1) for place in range(5)]
        self.assertEqual(refusal(laid, [0] * 6, single), ("TooMany", 5))
        self.assertEqual(least_wide(single)[:2], ("wide", 5))

    def test_refused(self):
        for thing in NO_WHOLES + [(0, 1), (1, 1, 1), (0, 1, 0), (0, 1, 7)]:
            self.assertEqual(refusal(least_wide, [(0, 1, 1), thing]), ("NoWish", 1))
        self.assertEqual(refusal(least_wide, [(0, 50 + place, 1) for place in range(6)] + [0]), ("NoWish", 6))


class RowAtTest(unittest.TestCase):
    def test_by_hand(self):
        groups, places = [(2, 4, 2), (0, 3, 1), (4, 6, 3)], [1, 0, 0]
        self.assertEqual([row_at(3, groups, places, night) for night in range(-1, 8)],
                         [[None] * 3, [1, None, None], [1, None, None], [1, 0, 0], [None, 0, 0], [2, 2, 2], [2, 2, 2],
                          [None] * 3, [None] * 3])
        self.assertEqual(row_at(5, groups, places, 4), [2, 2, 2, None, None])
        self.assertEqual(row_at(0, [], [], 3), [])
        self.assertEqual(row_at(2, [], [], 10 ** 299), [None, None])

    def test_by_words(self):
        source = random.Random(153)
        for turn in range(150):
            groups = random_groups(source, source.randint(1, 5), 8, 3)
            told = refusal(least_wide, groups)
            if told[0] == "told" and told[1][0] == "wide":
                wide, places = told[1][1], told[1][2]
                for night in range(-1, 9):
                    wanted = [None] * wide
                    for place, group in enumerate(groups):
                        for room in range(wide):
                            if night in nights(group) and places[place] <= room < places[place] + group[2]:
                                wanted[room] = place
                    self.assertEqual(row_at(wide, groups, places, night), wanted)


if __name__ == "__main__":
    unittest.main()
