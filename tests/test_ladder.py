import random
import unittest
from itertools import product

from nightbook.ladder import admitted, is_fewest, is_full, movable
from tests.oddities import NO_WHOLES
from tests.papers import falls_by_words, fewest_moves, has_free, is_a_level, levels_of, moved, moves_there_are

FAR = 10 ** 299


def random_guests(source, rooms, share):
    return {room: source.randint(1, kind) for room, kind in enumerate(rooms) if source.random() < share}


def all_houses(most):
    for many in range(most + 1):
        for rooms in product([1, 2, 3, 4], repeat=many):
            if list(rooms) == sorted(rooms) or many < 3:
                for wished in product(*[range(kind + 1) for kind in rooms]):
                    yield list(rooms), {room: kind for room, kind in enumerate(wished) if kind}


class AdmittedTest(unittest.TestCase):
    def look(self, rooms, guests, kind):
        """Looks at the paper itself; tells how many moves, None where it is full."""
        told = admitted(rooms, guests, kind)
        self.assertIs(type(told), tuple)
        if told[0] == "full":
            self.assertEqual(len(told), 2)
            self.assertEqual(told[1], max(levels_of(rooms, guests, kind)), (rooms, guests, kind))
            self.assertIs(is_full(rooms, guests, kind, told[1]), True)
            return None
        word, moves, room, falls = told
        self.assertEqual((word, type(moves), type(falls)), ("in", list, list))
        here = guests
        for move in moves:
            self.assertIs(type(move), tuple)
            self.assertIn(move, moves_there_are(rooms, here))
            here = moved(here, move)
        self.assertNotIn(room, here)
        self.assertGreaterEqual(rooms[room], kind)
        self.assertEqual(falls, falls_by_words(rooms, guests, kind))
        self.assertEqual(len(falls), len(moves) + 1)
        self.assertTrue(all(one > other for one, other in zip(falls, falls[1:])))
        self.assertIs(is_fewest(rooms, guests, kind, moves, falls), True)
        return len(moves)

    def test_no_rooms(self):
        for kind in (1, 2, 3, 4):
            self.assertEqual(admitted([], {}, kind), ("full", kind))

    def test_kinds_that_no_room_has(self):
        self.assertEqual(admitted([1, 1], {}, 2), ("full", 2))
        self.assertEqual(admitted([1, 3, 3], {1: 1, 2: 3}, 4), ("full", 4))
        self.assertEqual(admitted([1, 4], {1: 4}, 3), ("full", 3))

    def test_all_rooms_taken(self):
        self.assertEqual(admitted([1, 2], {0: 1, 1: 2}, 2), ("full", 2))
        self.assertEqual(admitted([1, 2], {0: 1, 1: 1}, 2), ("full", 1))
        self.assertEqual(admitted([1, 2, 3], {0: 1, 1: 2, 2: 2}, 3), ("full", 2))
        self.assertEqual(admitted([4] * 12, {room: 1 for room in range(12)}, 4), ("full", 1))

    def test_without_moves(self):
        self.assertEqual(admitted([1], {}, 1), ("in", [], 0, [1]))
        self.assertEqual(admitted([1, 4], {0: 1}, 1), ("in", [], 1, [1]))

    def test_guests_in_better_rooms_than_they_wish(self):
        self.assertEqual(admitted([1, 2], {1: 1}, 2), ("in", [(1, 0)], 1, [2, 1]))
        self.assertEqual(admitted([1, 2, 3], {1: 1, 2: 2}, 3), ("in", [(1, 0), (2, 1)], 2, [3, 2, 1]))
        self.assertEqual(admitted([1, 2, 3, 4], {1: 1, 2: 2, 3: 3}, 4),
                         ("in", [(1, 0), (2, 1), (3, 2)], 3, [4, 3, 2, 1]))
        self.assertEqual(admitted([1, 2, 3], {1: 1, 2: 1}, 3), ("in", [(2, 0)], 2, [3, 1]))

    def test_all_small_houses(self):
        seen = {}
        for rooms, guests in all_houses(4):
            for kind in (1, 2, 3, 4):
                told = self.look(rooms, guests, kind)
                self.assertEqual(told, fewest_moves(rooms, guests, kind), (rooms, guests, kind))
                seen[told] = seen.get(told, 0) + 1
        self.assertEqual(sorted(seen, key=str), [0, 1, 2, 3, None])

    def test_some_of_six_rooms(self):
        source = random.Random(121)
        for turn in range(300):
            rooms = [source.randint(1, 4) for room in range(6)]
            guests = random_guests(source, rooms, 0.75)
            kind = source.randint(1, 4)
            self.assertEqual(self.look(rooms, guests, kind), fewest_moves(rooms, guests, kind))

    def test_twelve_rooms(self):
        source = random.Random(122)
        seen = set()
        for turn in range(2000):
            rooms = [source.randint(1, 4) for room in range(12)]
            guests = random_guests(source, rooms, source.choice([0.5, 0.9, 0.95, 1]))
            kind = source.randint(1, 4)
            told = self.look(rooms, guests, kind)
            # It is full just where, for some kind, those who wish it or better are more than such rooms.
            wished = list(guests.values()) + [kind]
            fits = all(sum(one >= level for one in wished) <= sum(own >= level for own in rooms)
                       for level in range(1, kind + 1))
            self.assertEqual(told is not None, fits)
            seen.add(told)
        self.assertTrue({0, 1, 2, None} <= seen, seen)


class IsFewestTest(unittest.TestCase):
    ROOMS, GUESTS = [1, 2, 3], {1: 1, 2: 2}
    MOVES, FALLS = [(1, 0), (2, 1)], [3, 2, 1]

    def asked(self, moves, falls):
        return is_fewest(self.ROOMS, self.GUESTS, 3, moves, falls)

    def test_by_hand(self):
        self.assertIs(self.asked(self.MOVES, self.FALLS), True)
        for moves in [[], [(1, 0)], [(2, 1), (1, 0)], [(1, 0), (2, 0)], [(1, 0), (1, 0)], [(1, 0), (2, 2)],
                      [(1, 0), (0, 1)], [(1, 0), (2, 3)], [(1, 0), (2, -1)], [(1, 0), (2, 1), (0, 2)], [(1, 0), (5, 1)],
                      [(1, 0), (2, 1, 0)], [(1, 0), [2, 1]], [(1, 0), None], ((1, 0), (2, 1)), [(1, 0), (2, True)],
                      [(True, 0), (2, 1)], [(1, False), (2, 1)], [(1.0, 0), (2, 1)], [(1, 0), (2, FAR)]]:
            self.assertIs(self.asked(moves, self.FALLS), False, moves)
        for falls in [[], [3], [3, 2], [3, 1], [3, 2, 1, 1], [2, 1], [3, 2, 2], [1, 2, 3], (3, 2, 1), [3, 2, True],
                      [3, 2, 1.0], [4, 2, 1], [3, 2, 0], None, "321"]:
            self.assertIs(self.asked(self.MOVES, falls), False, falls)

    def test_more_moves_than_need_be(self):
        self.assertIs(is_fewest([1, 1, 2], {2: 1}, 2, [(2, 1)], [2, 1]), True)
        self.assertIs(is_fewest([1, 1, 2], {2: 1}, 2, [(2, 0)], [2, 1]), True)
        self.assertIs(is_fewest([1, 1, 2], {2: 1}, 2, [(2, 0), (0, 1)], [2, 1]), False)
        self.assertIs(is_fewest([1, 1, 2], {2: 1}, 2, [(2, 0), (0, 1)], [2, 1, 1]), False)
        self.assertIs(is_fewest([1, 1, 2], {0: 1}, 2, [(0, 1)], [2]), False)
        self.assertIs(is_fewest([1, 1, 2], {0: 1}, 2, [], [2]), True)

    def test_moves_that_make_no_room(self):
        self.assertIs(is_fewest([1, 1, 2, 2], {2: 1, 3: 1, 0: 1}, 2, [(0, 1)], [2, 1]), False)
        self.assertIs(is_fewest([1, 1, 2, 2], {2: 1, 3: 1, 0: 1}, 2, [(3, 1)], [2, 1]), True)

    def test_a_move_into_a_lesser_room_than_wished(self):
        self.assertIs(is_fewest([1, 2, 2], {1: 1, 2: 2}, 2, [(1, 0)], [2, 1]), True)
        self.assertIs(is_fewest([1, 2, 2], {1: 1, 2: 2}, 2, [(2, 0)], [2, 1]), False)
        self.assertIs(is_fewest([2, 3, 4], {1: 2, 2: 3}, 4, [(1, 0), (2, 1)], [4, 3, 2]), True)
        self.assertIs(is_fewest([2, 3, 4, 4], {1: 2, 2: 3, 3: 4}, 4, [(1, 0), (3, 1)], [4, 3, 2]), False)

    def test_where_it_is_full_nothing_is(self):
        for moves, falls in [([], [1]), ([], []), ([(0, 0)], [1, 1]), (None, None), ([], None), (None, [1])]:
            self.assertIs(is_fewest([1], {0: 1}, 1, moves, falls), False)

    def test_things_of_every_other_kind(self):
        for thing in NO_WHOLES + [1, 3, "x"]:
            self.assertIs(self.asked(thing, self.FALLS), False, thing)
            self.assertIs(self.asked(self.MOVES, thing), False, thing)
            self.assertIs(self.asked(thing, thing), False, thing)
            self.assertIs(self.asked([(1, 0), thing], self.FALLS), False, thing)
            if type(thing) is not int:
                self.assertIs(self.asked([(1, 0), (2, thing)], self.FALLS), False, thing)
                self.assertIs(self.asked(self.MOVES, [3, 2, thing]), False, thing)
                self.assertIs(self.asked([(1, 0), (thing, 1)], self.FALLS), False, thing)

    def test_all_moves_of_small_houses(self):
        source = random.Random(123)
        seen = {True: 0, False: 0}
        for turn in range(300):
            rooms = [source.randint(1, 3) for room in range(source.randint(1, 4))]
            guests, kind = random_guests(source, rooms, 0.7), source.randint(1, 3)
            falls = falls_by_words(rooms, guests, kind)
            for moves in product(list(product(range(-1, len(rooms) + 1), repeat=2)), repeat=source.randint(0, 2)):
                here, done = guests, True
                for move in moves:
                    done = done and move in moves_there_are(rooms, here)
                    here = moved(here, move) if done else here
                wanted = done and has_free(rooms, here, kind) and falls is not None and len(falls) == len(moves) + 1
                self.assertIs(is_fewest(rooms, guests, kind, list(moves), falls), wanted)
                seen[wanted] += 1
        self.assertGreater(seen[True], 30)


class IsFullTest(unittest.TestCase):
    def test_all_small_houses(self):
        for rooms, guests in all_houses(3):
            for kind in (1, 2, 3, 4):
                for thing in range(-1, 6):
                    wanted = 1 <= thing <= kind and is_a_level(rooms, guests, thing)
                    self.assertIs(is_full(rooms, guests, kind, thing), wanted, (rooms, guests, kind, thing))

    def test_the_greatest_or_not(self):
        self.assertIs(is_full([1, 2], {0: 1, 1: 2}, 2, 1), True)
        self.assertIs(is_full([1, 2], {0: 1, 1: 2}, 2, 2), True)
        self.assertIs(is_full([1, 2], {0: 1, 1: 2}, 1, 2), False)

    def test_things_of_every_other_kind(self):
        for thing in NO_WHOLES + [0, -1, 5, FAR, -FAR, "1", [1], (1,)]:
            self.assertIs(is_full([1], {0: 1}, 4, thing), False, thing)
        self.assertIs(is_full([1], {0: 1}, 4, 1), True)


class MovableTest(unittest.TestCase):
    def test_by_hand(self):
        self.assertEqual(movable([], {}), [])
        self.assertEqual(movable([1, 2, 3], {}), [])
        self.assertEqual(movable([1, 2, 3], {2: 1}), [(2, 0), (2, 1)])
        self.assertEqual(movable([1, 2, 3], {2: 2}), [(2, 1)])
        self.assertEqual(movable([3, 1, 2, 4], {3: 1, 1: 1}), [(1, 0), (1, 2), (3, 0), (3, 2)])
        self.assertEqual(movable([2, 2], {1: 2, 0: 1}), [])

    def test_all_small_houses(self):
        for rooms, guests in all_houses(4):
            told = movable(rooms, guests)
            self.assertEqual(told, moves_there_are(rooms, guests))
            self.assertEqual(told, sorted(told))

    def test_whatever_the_order_of_the_dict(self):
        self.assertEqual(movable([1, 1, 1], {2: 1, 0: 1}), movable([1, 1, 1], {0: 1, 2: 1}))


if __name__ == "__main__":
    unittest.main()
