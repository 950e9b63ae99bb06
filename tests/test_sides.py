import random
import unittest
from itertools import product

from nightbook.errors import NoWish, TooMany
from nightbook.sides import is_laid, is_none, laid
from tests.oddities import NO_WHOLES
from tests.papers import all_places, are_places, leads_to_nothing, lists_by_words, refusal, rows_that_come

FAR = 10 ** 299


def random_groups(source, many, last, most):
    groups = []
    for place in range(many):
        first = source.randrange(last)
        groups.append((first, source.randint(first + 1, last), source.randint(1, most)))
    return groups


class LaidTest(unittest.TestCase):
    def look(self, held, groups):
        """Looks at the paper itself; tells its word."""
        lists, too_many = lists_by_words(held, groups)
        told = refusal(laid, held, groups)
        if too_many is not None:
            self.assertEqual(told, ("TooMany", too_many))
            return "many"
        self.assertEqual(told[0], "told")
        word, paper = told[1]
        self.assertEqual(word, "none" if lists and not lists[-1] else "laid", (held, groups))
        if word == "laid":
            self.assertTrue(are_places(held, groups, paper), (held, groups, paper))
            self.assertIs(is_laid(held, groups, paper), True)
        else:
            self.assertEqual(paper, lists)
            self.assertTrue(leads_to_nothing(held, groups, paper))
            self.assertIs(is_none(held, groups, paper), True)
        return word

    def test_examples(self):
        self.assertEqual(laid([0, 4, 0], [(2, 5, 2)]), ("none", [[]]))
        self.assertIn(laid([0, 4, 0], [(4, 6, 2)]), [("laid", [0]), ("laid", [1])])
        self.assertEqual(laid([0, 0], [(0, 2, 1), (1, 3, 2)]), ("none", [[(0, 2), (2, 0)], []]))

    def test_no_groups(self):
        for held in ([0], [0, 400], [5] * 6):
            self.assertEqual(laid(held, []), ("laid", []))

    def test_more_rooms_than_there_are(self):
        self.assertEqual(laid([0, 0], [(0, 1, 3)]), ("none", [[]]))
        self.assertEqual(laid([0], [(3, 5, 6)]), ("none", [[]]))
        self.assertEqual(laid([0, 0], [(5, 6, 3), (2, 3, 1)]), ("none", [[(0, 3), (3, 0)], []]))

    def test_rooms_that_are_held_for_long(self):
        self.assertEqual(laid([400], [(399, 400, 1)]), ("none", [[]]))
        self.assertEqual(laid([399], [(399, 400, 1)]), ("laid", [0]))
        self.assertEqual(laid([400, 0, 400], [(0, 400, 1)]), ("laid", [1]))

    def test_held_numbers_stay_as_they_are_ahead_of_all(self):
        # A room that is free for long stands as 0 behind the first group, not ahead of it.
        self.assertEqual(laid([3, 2], [(3, 4, 1), (3, 5, 2)]), ("none", [[(0, 4), (4, 0)], []]))
        self.assertEqual(laid([9, 2], [(3, 4, 1), (3, 5, 1)]), ("none", [[(9, 4)], []]))

    def test_groups_are_taken_by_their_first_nights(self):
        self.assertEqual(laid([0], [(2, 4, 1), (0, 2, 1)]), ("laid", [0, 0]))
        self.assertEqual(laid([0], [(2, 4, 1), (1, 3, 1), (0, 1, 1)]), ("none", [[(1,)], [(3,)], []]))
        self.assertEqual(laid([0, 0], [(0, 2, 2), (0, 3, 1)]), ("none", [[(2, 2)], []]))
        self.assertEqual(laid([0, 0], [(0, 3, 1), (0, 2, 2)]), ("none", [[(0, 3), (3, 0)], []]))

    def test_small_ones_by_all_places(self):
        source = random.Random(141)
        seen = set()
        for turn in range(500):
            held = [source.choice([0, 0, 0, source.randint(0, 5)]) for room in range(source.randint(1, 4))]
            groups = random_groups(source, source.randint(0, 5), 6, 3)
            word = self.look(held, groups)
            self.assertEqual(word == "laid", bool(all_places(held, groups)))
            seen.add(word)
        self.assertEqual(seen, {"laid", "none"})

    def test_sixteen_groups(self):
        source = random.Random(142)
        seen = set()
        for turn in range(150):
            held = [source.choice([0, 0, source.randint(0, 400)]) for room in range(source.randint(1, 6))]
            first = source.choice([6, 40, 400])
            groups = []
            for place in range(16):
                night = source.randrange(first)
                groups.append((night, min(400, night + source.randint(1, 3)), source.randint(1, 2)))
            seen.add(self.look(held, groups))
        self.assertTrue({"laid", "none"} <= seen, seen)

    def test_a_list_of_more_than_400_rows(self):
        held, single = [0] * 6, [(0, 50 + place, 1) for place in range(6)]
        lists, number = lists_by_words(held, single)
        self.assertEqual([len(rows) for rows in lists], [6, 30, 120, 360, 720])
        self.assertEqual(number, 5)
        self.assertEqual(refusal(laid, held, single), ("TooMany", 5))
        # There are places for them, and still it is refused; with one fewer it is not.
        self.assertTrue(are_places(held, single, [0, 1, 2, 3, 4, 5]))
        self.assertEqual(self.look(held, single[:4]), "laid")
        self.assertEqual(refusal(laid, held, single + [(0, 1, 6)]), ("TooMany", 5))

    def test_just_about_400_rows(self):
        held, groups = [0, 0, 2, 0, 0, 0], [(0, 7, 2), (2, 8, 1), (3, 15, 1), (5, 13, 1), (7, 11, 1), (7, 17, 1)]
        self.assertEqual(len(lists_by_words(held, groups)[0][-1]), 396)
        self.assertEqual(self.look(held, groups), "laid")
        held, groups = [0, 3, 0, 0, 0, 0], [(0, 7, 1), (1, 8, 1), (3, 5, 2), (4, 9, 1), (5, 17, 1), (5, 15, 1)]
        self.assertEqual(len(lists_by_words(held, groups)[0][-1]), 408)
        self.assertEqual(refusal(laid, held, groups), ("TooMany", 6))
        # Far more rooms than an inn has: only so the list has just as many rows as are kept, and one more.
        self.assertEqual(self.look([0] * 400, [(0, 1, 1)]), "laid")
        self.assertEqual(refusal(laid, [0] * 401, [(0, 1, 1)]), ("TooMany", 1))

    def test_lists_behind_an_empty_one_are_not_looked_at(self):
        held, single = [0] * 6, [(0, 50 + place, 1) for place in range(3)]
        more = [(1, 50 + place, 1) for place in range(3)]
        self.assertEqual(self.look(held, single + [(0, 1, 6)] + more), "none")
        self.assertEqual(len(laid(held, single + [(0, 1, 6)] + more)[1]), 4)

    def test_just_400_rows_and_more(self):
        source = random.Random(143)
        seen = {}
        for turn in range(400):
            groups = [(source.randint(0, 3), source.randint(5, 12), source.choice([1, 1, 1, 2])) for place in range(6)]
            word = self.look([0] * source.choice([5, 6]), groups)
            seen[word] = seen.get(word, 0) + 1
        self.assertTrue(min(seen.get(word, 0) for word in ("laid", "none", "many")) > 5, seen)

    def test_somewhat_beyond_the_bounds(self):
        self.assertEqual(self.look([0] * 7, [(place, place + 1, 6) for place in range(18)]), "laid")


class RefusedTest(unittest.TestCase):
    CALLS = [(laid, ()), (is_laid, ([],)), (is_none, ([],)), (is_laid, (None,)), (is_none, (None,))]

    def each(self, held, groups, at):
        for call, more in self.CALLS:
            self.assertEqual(refusal(call, held, groups, *more), ("NoWish", at))

    def test_no_groups(self):
        for thing in [(0, 1), (0, 1, 0), (0, 1, 7), (0, 1, -1), (1, 1, 1), (2, 1, 1), (-1, 1, 1), (0, 401, 1),
                      [0, 1, 1],
                      (0, 1, 1, 1), (0, 1, FAR), (0, FAR, 1), (True, 2, 1), (0, True, 1), (0, 1, True), ((0, 1), 1), "x"]:
            self.each([0, 0], [thing], 0)
            self.each([0, 0], [(0, 1, 1), (0, 1, 6), thing, (1, 1, 1)], 2)

    def test_things_of_every_other_kind(self):
        for thing in NO_WHOLES:
            self.each([0, 0], [(0, 1, 1), thing], 1)
            for around in [(thing, 3, 1), (0, thing, 1), (0, 1, thing)]:
                self.each([0, 0], [(0, 1, 1), around], 1)

    def test_ahead_of_all_else(self):
        held, single = [0] * 6, [(0, 50 + place, 1) for place in range(6)]
        self.assertRaises(TooMany, laid, held, single)
        self.each(held, single + [None], 6)
        self.each([0], [(0, 1, 6), (0, 1, 9)], 1)

    def test_is_laid_and_is_none_never_tell_too_many(self):
        held, single = [0] * 6, [(0, 50 + place, 1) for place in range(6)]
        self.assertIs(is_laid(held, single, [0, 1, 2, 3, 4, 5]), True)
        self.assertIs(is_none(held, single, [[]]), False)
        groups = single + [(0, 1, 1)]
        lists, rows = [], [tuple(held)]
        for group in groups:
            rows = rows_that_come(rows, group)
            lists.append(rows)
        self.assertEqual(lists[-1], [])
        self.assertIs(is_none(held, groups, lists), True)
        self.assertRaises(TooMany, laid, held, groups)

    def test_made_good_it_is_taken(self):
        groups = [(0, 1, 1), (0, 1, 0)]
        with self.assertRaises(NoWish):
            laid([0, 0], groups)
        groups[1] = (0, 1, 1)
        self.assertEqual(laid([0, 0], groups)[0], "laid")


class IsLaidTest(unittest.TestCase):
    def test_all_lists_of_small_numbers(self):
        source = random.Random(144)
        seen = {True: 0, False: 0}
        for turn in range(150):
            held = [source.choice([0, source.randint(0, 4)]) for room in range(source.randint(1, 3))]
            groups = random_groups(source, source.randint(0, 3), 5, 3)
            for thing in product(range(-1, len(held) + 1), repeat=len(groups)):
                wanted = are_places(held, groups, list(thing))
                self.assertIs(is_laid(held, groups, list(thing)), wanted, (held, groups, thing))
                seen[wanted] += 1
        self.assertGreater(min(seen.values()), 100)

    def test_things_of_every_other_kind(self):
        held, groups = [0, 0], [(0, 2, 1), (1, 3, 1)]
        self.assertIs(is_laid(held, groups, [0, 1]), True)
        for thing in NO_WHOLES + [(0, 1), {0: 0, 1: 1}, "01", [0], [0, 1, 0], [0, FAR], [0, -1], [-FAR, 1]]:
            self.assertIs(is_laid(held, groups, thing), False, thing)
        for thing in NO_WHOLES:
            self.assertIs(is_laid(held, groups, [0, thing]), False, thing)
            self.assertIs(is_laid(held, groups, [thing, 1]), False, thing)
            self.assertIs(is_laid(held, [], thing), thing.__class__ == list and len(thing) == 0, thing)


class IsNoneTest(unittest.TestCase):
    HELD, GROUPS = [0, 0], [(0, 2, 1), (1, 3, 2)]
    TOLD = [[(0, 2), (2, 0)], []]

    def asked(self, thing):
        return is_none(self.HELD, self.GROUPS, thing)

    def test_by_hand(self):
        self.assertIs(self.asked(self.TOLD), True)
        self.assertIs(self.asked([[(2, 0), (0, 2)], []]), True)
        self.assertIs(self.asked([[(0, 2), (2, 0), (0, 2)], []]), True)
        for thing in [[], [[]], [[(0, 2)], []], [[(2, 0)], []], [[(0, 2), (2, 0)]], [[(0, 2), (2, 0)], [], []],
                      [[(0, 2), (2, 0)], [(3, 3)]], [[], []], [[(0, 2), (2, 0), (1, 1, 1)], []],
                      [[(0, 2), (2, 0), [5, 5]], []], [((0, 2), (2, 0)), []], [[(0, 2), (2, 0)], ()],
                      ([(0, 2), (2, 0)], []), [[(0, 2), (2, False)], []], [[(0, 2), (2, 0), (True, 9)], []]]:
            self.assertIs(self.asked(thing), False, thing)

    def test_rows_more_than_need_be(self):
        # What comes of the row more must stand in the next list as well.
        self.assertIs(self.asked([[(0, 2), (2, 0), (9, 9)], []]), True)
        self.assertIs(self.asked([[(0, 2), (2, 0), (0, 2000), (FAR, -5)], []]), True)
        self.assertIs(self.asked([[(0, 2), (2, 0), (0, 0)], []]), False)
        self.assertIs(self.asked([[(0, 2), (2, 0), (1, -7)], []]), False)
        groups = self.GROUPS + [(2, 4, 1)]
        self.assertIs(is_none(self.HELD, groups, [[(0, 2), (2, 0), (0, 0)], [(3, 3)], []]), True)
        self.assertIs(is_none(self.HELD, groups, [[(0, 2), (2, 0), (0, 0)], [(3, 4)], []]), False)
        self.assertIs(is_none(self.HELD, groups, [[(0, 2), (2, 0)], [(9, 9)], []]), True)
        self.assertIs(is_none(self.HELD, groups, [[(0, 2), (2, 0)], [], []]), True)

    def test_no_groups(self):
        for thing in [[], [[]], [[], []], None, [[(0, 0)], []]]:
            self.assertIs(is_none([0, 0], [], thing), False)

    def test_where_there_are_places_it_is_never_true(self):
        source = random.Random(145)
        for turn in range(200):
            held = [0] * source.randint(1, 3)
            groups = random_groups(source, source.randint(1, 3), 4, 2)
            lists, too_many = lists_by_words(held, groups)
            if lists[-1]:
                self.assertIs(is_none(held, groups, lists), False)
                self.assertIs(is_none(held, groups, lists[:-1] + [[]]), False)
                self.assertIs(is_none(held, groups, [[]]), False)

    def test_lists_that_are_changed(self):
        source = random.Random(146)
        seen = {True: 0, False: 0}
        for turn in range(1500):
            held = [source.choice([0, source.randint(0, 3)]) for room in range(source.randint(1, 3))]
            groups = random_groups(source, source.randint(1, 5), 5, 3)
            lists, too_many = lists_by_words(held, groups)
            changed = [list(rows) for rows in lists]
            at = source.randrange(len(changed))
            act = source.choice(["drop", "add", "twice", "turn", "cut", "longer", "as it is"])
            if act == "drop" and changed[at]:
                changed[at].pop(source.randrange(len(changed[at])))
            if act == "add":
                changed[at].append(tuple(source.randint(0, 6) for room in held))
            if act == "twice":
                changed[at] = changed[at] * 2
            if act == "turn":
                source.shuffle(changed[at])
            if act == "cut":
                changed.pop()
            if act == "longer":
                changed.append([])
            wanted = leads_to_nothing(held, groups, changed)
            self.assertIs(is_none(held, groups, changed), wanted, (held, groups, changed))
            seen[wanted] += 1
        self.assertGreater(min(seen.values()), 200, seen)

    def test_things_of_every_other_kind(self):
        for thing in NO_WHOLES:
            self.assertIs(self.asked(thing), False, thing)
            self.assertIs(self.asked([thing]), False, thing)
            self.assertIs(self.asked([[(0, 2), (2, 0), thing], []]), thing.__class__ == tuple and thing == (1, 2),
                          thing)
            self.assertIs(self.asked([[(0, 2), (2, 0), (9, thing)], []]), False, thing)
            if thing.__class__ != list or len(thing):
                self.assertIs(self.asked([[(0, 2), (2, 0)], thing]), False, thing)
            self.assertIs(self.asked([thing, []]), False, thing)


if __name__ == "__main__":
    unittest.main()
