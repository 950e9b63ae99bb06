import random
import unittest

from nightbook.house import House, is_name
from tests.oddities import NO_WHOLES
from tests.papers import fewest_moves, levels_of, moved, moves_there_are, refusal

NAMES = ["ann", "bob", "cid", "dot", "eve", "fay", "gus", "hal", "ida", "jon", "kim", "lea", "max", "ned"]
NO_NAMES = ["", "Ann", "ANN", "ann1", "an n", " ann", "ann ", "abcdefghi", "a-b", "a\n", "0", "_", "a.", "{", "`",
            "annannannann", "\n", "an\tn"]


class IsNameTest(unittest.TestCase):
    def test_names(self):
        for thing in ["a", "z", "ann", "abcdefgh", "zzzzzzzz", "to", "inn"]:
            self.assertIs(is_name(thing), True, thing)

    def test_other_texts(self):
        for thing in NO_NAMES:
            self.assertIs(is_name(thing), False, thing)
        for code in range(128):
            self.assertIs(is_name(chr(code)), "a" <= chr(code) <= "z")
            self.assertIs(is_name("ab" + chr(code)), "a" <= chr(code) <= "z")

    def test_lengths(self):
        for many in range(12):
            self.assertIs(is_name("q" * many), 1 <= many <= 8)

    def test_things_of_every_other_kind(self):
        for thing in NO_WHOLES + [1, ["a"], ("a",), {"a": 1}, b"ann", ["a", "b"], ("a", "b")]:
            self.assertIs(is_name(thing), thing.__class__ == str and thing == "a", thing)


class LetInTest(unittest.TestCase):
    def test_one_room(self):
        house = House([1])
        self.assertEqual(house.let_in("ann", 1), (0, []))
        self.assertEqual(refusal(house.let_in, "bob", 1), ("Full", 1))
        self.assertEqual(house.out("ann"), 0)
        self.assertEqual(house.let_in("bob", 1), (0, []))

    def test_no_rooms(self):
        house = House([])
        for kind in (1, 2, 3, 4):
            self.assertEqual(refusal(house.let_in, "ann", kind), ("Full", kind))
        self.assertEqual((house.names(), house.guests(), house.free(), house.moved()), ([], {}, [], []))

    def test_moves(self):
        house = House([1, 2, 3])
        self.assertEqual(house.let_in("cid", 1), (0, []))
        self.assertEqual(house.let_in("ann", 1), (1, []))
        self.assertEqual(house.let_in("bob", 2), (2, []))
        self.assertEqual(house.out("cid"), 0)
        self.assertEqual(house.let_in("dot", 3), (2, [(1, 0), (2, 1)]))
        self.assertEqual(house.names(), ["ann", "bob", "dot"])
        self.assertEqual([house.room_of(name) for name in house.names()], [0, 1, 2])
        self.assertEqual([house.kind_of(name) for name in house.names()], [1, 2, 3])
        self.assertEqual(house.moved(), [("ann", 1, 0), ("bob", 2, 1)])
        self.assertEqual(house.guests(), {0: 1, 1: 2, 2: 3})
        self.assertEqual(house.free(), [])

    def test_who_went_out_comes_in_again(self):
        house = House([1, 1, 2])
        for name in ("ann", "bob"):
            house.let_in(name, 1)
        self.assertEqual(house.out("ann"), 0)
        self.assertEqual(house.names(), ["bob"])
        self.assertEqual(house.free(), [0, 2])
        house.let_in("ann", 2)
        self.assertEqual(house.names(), ["bob", "ann"])
        self.assertEqual((house.room_of("ann"), house.kind_of("ann")), (2, 2))

    def test_rooms_are_copied(self):
        rooms = [1, 2]
        house = House(rooms)
        rooms.append(4)
        rooms[0] = 4
        self.assertEqual(house.free(), [0, 1])
        self.assertEqual(refusal(house.let_in, "ann", 3), ("Full", 3))
        self.assertEqual(house.let_in("ann", 2), (1, []))

    def test_what_is_told_is_the_asker_s_own(self):
        house = House([1, 2, 3])
        for name, kind in [("ann", 1), ("bob", 1), ("cid", 1)]:
            house.let_in(name, kind)
        house.out("ann")
        told = house.let_in("dot", 3)
        for ask in (house.names, house.free, house.moved, house.guests):
            wanted, again = ask(), ask()
            again.clear()
            if isinstance(again, list):
                again.append("x")
            self.assertEqual(ask(), wanted)
            self.assertIsNot(ask(), ask())
        self.assertEqual(len(told[1]), 1)
        told[1].clear()
        self.assertEqual(len(house.moved()), 1)
        kept = house.moved()
        house.out("dot")
        house.let_in("eve", 2)
        self.assertEqual(len(kept), 1)

    def test_two_houses(self):
        one, other = House([1]), House([1])
        one.let_in("ann", 1)
        self.assertEqual(other.names(), [])
        self.assertEqual(refusal(other.room_of, "ann"), ("NoGuest", "ann"))
        other.let_in("ann", 1)
        one.out("ann")
        self.assertEqual((one.names(), other.names()), ([], ["ann"]))


class RefusedTest(unittest.TestCase):
    def setUp(self):
        self.house = House([1, 2])
        self.house.let_in("ann", 1)
        self.house.let_in("bob", 2)

    def tearDown(self):
        self.assertEqual(self.house.names(), ["ann", "bob"])
        self.assertEqual(self.house.guests(), {0: 1, 1: 2})
        self.assertEqual((self.house.free(), self.house.moved()), ([], []))

    def test_each_alone(self):
        house = House([4])
        for name in NO_NAMES:
            self.assertEqual(refusal(house.let_in, name, 1), ("NoName", name))
        for kind in (0, 5, -1, 10 ** 299, -10 ** 299):
            self.assertEqual(refusal(house.let_in, "ann", kind), ("NoKind", kind))
        self.assertEqual(refusal(self.house.let_in, "ann", 1), ("Stands", "ann"))
        self.assertEqual(refusal(self.house.let_in, "cid", 2), ("Full", 2))
        self.assertEqual(refusal(self.house.let_in, "cid", 1), ("Full", 1))
        self.assertEqual(refusal(self.house.let_in, "cid", 4), ("Full", 4))

    def test_in_the_order_told(self):
        self.assertEqual(refusal(self.house.let_in, "Ann", 9), ("NoName", "Ann"))
        self.assertEqual(refusal(self.house.let_in, "ann", 9), ("Stands", "ann"))
        self.assertEqual(refusal(self.house.let_in, "cid", 9), ("NoKind", 9))

    def test_things_of_every_other_kind(self):
        for thing in NO_WHOLES:
            if thing.__class__ != str:
                error, value = refusal(self.house.let_in, thing, 1)
                self.assertEqual(error, "NoName")
                self.assertIs(value, thing)
            error, value = refusal(self.house.let_in, "cid", thing)
            self.assertEqual(error, "NoKind")
            self.assertIs(value, thing)
            is_a_name = thing.__class__ == str and thing == "a"
            self.assertEqual(refusal(self.house.let_in, thing, thing)[0], "NoKind" if is_a_name else "NoName")

    def test_who_is_not_in_the_house(self):
        for name in ["cid", "", "Ann", "abcdefghijk"]:
            for call in (self.house.out, self.house.room_of, self.house.kind_of):
                self.assertEqual(refusal(call, name), ("NoGuest", name))
        for thing in NO_WHOLES:
            for call in (self.house.out, self.house.room_of, self.house.kind_of):
                error, value = refusal(call, thing)
                self.assertEqual(error, "NoGuest")
                self.assertIs(value, thing)

    def test_made_good_it_is_taken(self):
        house = House([1])
        for name, kind in [("Ann", 1), ("ann", 0), ("ann", 2)]:
            self.assertNotEqual(refusal(house.let_in, name, kind)[0], "told")
        self.assertEqual(house.let_in("ann", 1), (0, []))
        self.assertEqual(house.names(), ["ann"])


class SeasonTest(unittest.TestCase):
    """Comings and goings, with a list of who is where kept by the test itself."""

    def go_on(self, source, rooms, turns):
        house, kept, done, seen = House(rooms), {}, [], set()
        for turn in range(turns):
            if kept and source.random() < 0.35:
                name = source.choice(list(kept))
                self.assertEqual(house.out(name), kept.pop(name)[0])
            else:
                name, kind = source.choice(NAMES), source.randint(1, 4)
                self.come(house, rooms, kept, done, seen, name, kind)
            self.assertEqual(house.names(), list(kept))
            self.assertEqual(house.guests(), {room: kind for room, kind in kept.values()})
            self.assertEqual(house.free(), sorted(set(range(len(rooms))) - {room for room, kind in kept.values()}))
            self.assertEqual(house.moved(), done)
            for name, (room, kind) in kept.items():
                self.assertEqual((house.room_of(name), house.kind_of(name)), (room, kind))
        return seen

    def come(self, house, rooms, kept, done, seen, name, kind):
        guests = {room: wished for room, wished in kept.values()}
        told = refusal(house.let_in, name, kind)
        if name in kept:
            self.assertEqual(told, ("Stands", name))
            return
        few = fewest_moves(rooms, guests, kind) if len(rooms) < 7 else None
        wished = list(guests.values()) + [kind]
        fits = all(sum(one >= level for one in wished) <= sum(own >= level for own in rooms)
                   for level in range(1, kind + 1))
        self.assertEqual(told[0], "told" if fits else "Full")
        seen.add(told[0])
        if not fits:
            self.assertEqual(told[1], max(levels_of(rooms, guests, kind)))
            return
        room, moves = told[1]
        self.assertEqual((type(told[1]), type(moves)), (tuple, list))
        if len(rooms) < 7:
            self.assertEqual(len(moves), few)
        for move in moves:
            self.assertIn(move, moves_there_are(rooms, guests))
            guests = moved(guests, move)
            who = [one for one in kept if kept[one][0] == move[0]][0]
            kept[who] = (move[1], kept[who][1])
            done.append((who, move[0], move[1]))
            seen.add("moved")
        self.assertNotIn(room, guests)
        self.assertGreaterEqual(rooms[room], kind)
        kept[name] = (room, kind)

    def test_small_houses(self):
        source = random.Random(131)
        seen = set()
        for turn in range(60):
            seen |= self.go_on(source, [source.randint(1, 4) for room in range(source.randint(0, 6))], 40)
        self.assertEqual(seen, {"told", "Full", "moved"})

    def test_twelve_rooms(self):
        source = random.Random(132)
        for turn in range(20):
            self.go_on(source, [source.randint(1, 4) for room in range(12)], 60)


if __name__ == "__main__":
    unittest.main()
