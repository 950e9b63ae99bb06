import copy
import random
import unittest

from nightbook.book import Book
from nightbook.looks import best_of_line, may_still, seats_of, together, wanted
from nightbook.plans import is_plan
from nightbook.seats import seated
from tests.looking import look_at_best, look_at_together, may, most_wanted, seats
from tests.oddities import NO_WHOLES
from tests.papers import refusal
from tests.witness import NAMES, Witness, done_by, look_at, random_deed

FAR = 10 ** 299
NO_KINDS = [0, 3, -1, FAR, -FAR] + NO_WHOLES


def told_wrong(told, name, value):
    return told[0] == name and told[1] is value


def book_of(ladder, risk, rows):
    """A book with these wishes; who has the word in has come."""
    book = Book(ladder, risk)
    for row in rows:
        book.wish(*row[:5] if len(row) > 4 and row[4] != "in" else row[:4])
        if row[-1] == "in":
            book.come(row[0])
    return book


def snapshot(book):
    states = [book.state(name) for name in book.names()]
    return (book.tonight(), book.names(), states, book.house(), book.line(), book.story(), list(book.ladder))


class SeatsOfTest(unittest.TestCase):
    def test_by_hand(self):
        book = book_of([1, 2], (1, 1), [("ann", 1, 0, 4, "in"), ("bob", 1, 0, 2, "in"), ("cid", 2, 0, 3, "in"),
                                        ("dot", 2, 1, 5), ("eve", 1, 3, 6), ("fay", 2, 0, 9)])
        self.assertEqual(book.house(), [("ann", 0), ("bob", 1), ("cid", 2)])
        self.assertEqual(seats_of(book, 1), (["ann", "eve"], [(0, 4, 0), (3, 6, None)], 1))
        self.assertEqual(seats_of(book, 2), (["bob", "cid", "dot", "fay"],
                                             [(0, 2, 0), (0, 3, 1), (1, 5, None), (0, 9, None)], 2))

    def test_a_kind_of_no_rooms(self):
        book = Book([0, 1], (1, 1))
        book.wish("ann", 1, 0, 2)
        book.wish("bob", 1, 2, 4)
        book.come("ann")
        self.assertEqual(seats_of(book, 1), (["bob"], [(2, 4, None)], 0))
        self.assertEqual(seats_of(book, 2), (["ann"], [(0, 2, 0)], 1))

    def test_who_waits_is_not_there(self):
        book = book_of([1], (0, 1), [("ann", 1, 0, 2), ("bob", 1, 1, 4)])
        self.assertEqual(seats_of(book, 1), (["ann"], [(0, 2, None)], 1))

    def test_nobody(self):
        self.assertEqual(seats_of(Book([0, 12], (0, 1)), 1), ([], [], 0))
        self.assertEqual(seats_of(Book([0, 12], (0, 1)), 2), ([], [], 12))


class NoKindTest(unittest.TestCase):
    def test_whatever_it_is(self):
        book = book_of([1, 1], (0, 1), [("ann", 1, 0, 2)])
        for kind in NO_KINDS:
            self.assertTrue(told_wrong(refusal(seats_of, book, kind), "NoKind", kind))
            self.assertTrue(told_wrong(refusal(wanted, book, kind), "NoKind", kind))
            for pairs in ([], [("zoe", -1)], [("ann", 3)]):
                self.assertTrue(told_wrong(refusal(best_of_line, book, kind, pairs), "NoKind", kind))


class MayStillTest(unittest.TestCase):
    def test_by_hand(self):
        # Of kind 2: rooms 1 and 2. Whoever leaves room 1 on night 2 must be followed at once.
        book = book_of([1, 2], (1, 1), [("zoe", 1, 0, 9, "in"), ("ann", 2, 0, 2, "in"), ("bob", 2, 0, 3, "in"),
                                        ("cid", 2, 2, 5), ("dot", 2, 3, 6)])
        self.assertEqual(dict(book.house()), {"zoe": 0, "ann": 1, "bob": 2})
        self.assertEqual(may_still(book, "cid"), [1])
        self.assertEqual(may_still(book, "dot"), [2])
        book.withdraw("cid")
        self.assertEqual(may_still(book, "dot"), [1, 2])

    def test_refused(self):
        book = book_of([1], (1, 2), [("ann", 1, 0, 4, "in"), ("bob", 1, 1, 3), ("cid", 1, 4, 6)])
        for name in ["zoe", "", "Ann", "no name", "annannann", "1"]:
            self.assertEqual(refusal(may_still, book, name), ("NoGuest", name))
        for name in ["ann", "bob"]:
            self.assertEqual(refusal(may_still, book, name), ("NotTaken", name))
        self.assertEqual(may_still(book, "cid"), [0])

    def test_too_full(self):
        book = book_of([0, 1], (1, 1), [("ann", 1, 3, 5), ("bob", 2, 1, 3), ("cid", 2, 2, 9)])
        self.assertEqual(refusal(may_still, book, "ann"), ("TooFull", 3))
        self.assertEqual(refusal(may_still, book, "bob"), ("TooFull", 2))
        self.assertEqual(refusal(may_still, book, "cid"), ("TooFull", 2))


class WantedTest(unittest.TestCase):
    def test_by_hand(self):
        book = book_of([2], (1, 1), [("ann", 1, 0, 4, "in"), ("bob", 1, 2, 5), ("cid", 1, 4, 7), ("dot", 1, 4, 5)])
        self.assertEqual(wanted(book, 1), (3, 4))
        book.withdraw("dot")
        self.assertEqual(wanted(book, 1), (2, 2))
        for night in (1, 2):
            book.close()
            self.assertEqual((book.tonight(), wanted(book, 1)), (night, (2, 2)))
        book.come("bob")
        book.close()
        self.assertEqual(wanted(book, 1), (2, 3))
        book.close()
        self.assertEqual(wanted(book, 1), (2, 4))

    def test_none(self):
        book = Book([1, 0], (0, 1))
        self.assertEqual([wanted(book, kind) for kind in (1, 2)], [(0, 0), (0, 0)])
        for night in range(5):
            book.close()
        self.assertEqual([wanted(book, kind) for kind in (1, 2)], [(0, 5), (0, 5)])

    def test_nights_ahead_of_tonight_do_not_count(self):
        book = book_of([2], (0, 1), [("ann", 1, 0, 9, "in")])
        book.close()
        book.close()
        self.assertEqual(wanted(book, 1), (1, 2))


class BestOfLineTest(unittest.TestCase):
    def setUp(self):
        self.book = book_of([1], (0, 1), [("ann", 1, 0, 2), ("bob", 1, 1, 4), ("cid", 1, 0, 3), ("dot", 1, 1, 3),
                                          ("eve", 1, 5, 6), ("fay", 1, 5, 7)])

    def test_by_hand(self):
        # Ann has nights 0 and 1: none that wait fits beside her.
        told = best_of_line(self.book, 1, [("bob", 5), ("cid", 4)])
        self.assertEqual(told[:2], (0, []))
        book = book_of([2], (0, 1), [("ann", 1, 0, 4), ("bob", 1, 2, 4), ("cid", 1, 0, 3), ("dot", 1, 0, 4),
                                     ("eve", 1, 3, 4)])
        self.assertEqual([row[0] for row in book.line()], ["cid", "dot", "eve"])
        book.withdraw("bob")
        self.assertEqual([row[0] for row in book.line()], ["dot"])

    def test_the_best_of_some(self):
        # Bob, who wishes kind 1, is in the room of kind 2, which ann has wished, too: the others wait, and
        # still nobody has the room of kind 1.
        book = book_of([1, 1], (0, 1), [("zoe", 1, 0, 1, "in"), ("bob", 1, 0, 9, "in")])
        book.go("zoe")
        for name, kind, nights in [("ann", 2, (0, 9)), ("cid", 1, (2, 5)), ("dot", 1, (3, 6)), ("eve", 1, (5, 7))]:
            book.wish(name, kind, *nights)
        self.assertEqual(book.house(), [("bob", 1)])
        self.assertEqual([row[0] for row in book.line()], ["cid", "dot", "eve"])
        for shift in range(2):
            told = best_of_line(book, 1, [("dot", 5), ("eve", 2), ("cid", 4)])
            self.assertEqual(told[:2], (6, ["eve", "cid"]))
            # Dot gets nothing: its nights, by the book's numbers, cost at least what it is worth.
            self.assertGreaterEqual(sum(price for night, price in told[2] if 3 <= night < 6), 5)
            self.assertLessEqual(sum(price for night, price in told[2] if 2 <= night < 5), 4)
            self.assertEqual(best_of_line(book, 1, [("dot", 7), ("eve", 2), ("cid", 4)])[:2], (7, ["dot"]))
            self.assertEqual(best_of_line(book, 1, [("eve", 0), ("dot", 7)])[0], 7)
            # Ann comes into the better room's place only by a move; then bob has the room of kind 1.
            if shift == 0:
                self.assertEqual(book.shorten("ann", 1, 9), [])
                self.assertEqual(book.close(), ([], [], [], []))
        self.assertEqual(book.come("ann"), ("in", 1, [(1, 0)]))
        self.assertEqual(best_of_line(book, 1, [("dot", 7), ("cid", 4)])[:2], (0, []))

    def test_nobody_and_no_pairs(self):
        self.assertEqual(best_of_line(Book([0], (0, 1)), 1, []), (0, [], []))
        told = best_of_line(self.book, 1, [])
        self.assertEqual(told[:2], (0, []))

    def test_refused(self):
        book = self.book
        for name in ["zoe", "", "Ann", "no name", "ann", "eve"]:
            self.assertEqual(refusal(best_of_line, book, 1, [(name, 3)]), ("NoGuest", name))
            self.assertEqual(refusal(best_of_line, book, 1, [("bob", 3), (name, None)]), ("NoGuest", name))
        self.assertEqual(refusal(best_of_line, book, 1, [("bob", 3), ("cid", 1), ("bob", 3)]), ("NoGuest", "bob"))
        for worth in [-1, 10 ** 9 + 1, FAR, -FAR] + NO_WHOLES:
            self.assertEqual(refusal(best_of_line, book, 1, [("bob", worth)]), ("NoWish", 0))
            self.assertEqual(refusal(best_of_line, book, 1, [("bob", 0), ("cid", worth), ("zoe", 1)]), ("NoWish", 1))
        for worth in [0, 10 ** 9]:
            self.assertEqual(refusal(best_of_line, book, 1, [("bob", worth)])[0], "told")

    def test_another_kind(self):
        book = book_of([1, 1], (0, 1), [("ann", 2, 0, 3), ("bob", 2, 1, 2), ("cid", 1, 0, 3), ("dot", 1, 0, 1)])
        self.assertEqual([row[0] for row in book.line()], ["bob", "dot"])
        self.assertEqual(refusal(best_of_line, book, 1, [("bob", 3)]), ("NoGuest", "bob"))
        self.assertEqual(refusal(best_of_line, book, 2, [("dot", 3)]), ("NoGuest", "dot"))
        self.assertEqual(refusal(best_of_line, book, 2, [("bob", 3)])[0], "told")

    def test_the_sixtieth_night(self):
        book = Book([0], (0, 1))
        for name, nights in [("ann", (59, 60)), ("bob", (59, 61)), ("cid", (0, 60)), ("dot", (0, 400)), ("eve", (60, 61))]:
            self.assertIs(book.wish(name, 1, *nights), False)
        witness = Witness(self, [0], (0, 1))
        for name, nights in [("ann", (59, 60)), ("bob", (59, 61)), ("cid", (0, 60)), ("dot", (0, 400)), ("eve", (60, 61))]:
            witness.wish(name, 1, *nights)
        pairs = [(name, 7) for name in book.names()]
        look_at_best(self, witness, 1, pairs, refusal(best_of_line, book, 1, pairs))
        prices = best_of_line(book, 1, pairs)[2]
        self.assertTrue(all(night < 60 for night, price in prices))
        # Whoever is left out is still named rightly: no refusal, no price for its nights.
        self.assertEqual(best_of_line(book, 1, [("bob", 9), ("eve", 9), ("dot", 9)])[:2], (0, []))
        self.assertEqual(sum(price for night, price in best_of_line(book, 1, [("bob", 9), ("eve", 9)])[2]), 0)
        self.assertGreaterEqual(sum(price for night, price in best_of_line(book, 1, [("ann", 9)])[2]), 9)
        book.close()
        self.assertGreaterEqual(sum(price for night, price in best_of_line(book, 1, [("bob", 9)])[2]), 9)
        self.assertEqual(refusal(best_of_line, book, 1, [("cid", 9)]), ("NoGuest", "cid"))

    def test_the_last_nights(self):
        book = Book([1], (0, 1))
        for night in range(380):
            book.close()
        for name, nights in [("ann", (380, 400)), ("bob", (399, 400)), ("cid", (381, 390))]:
            book.wish(name, 1, *nights)
        book.come("ann")
        self.assertEqual(best_of_line(book, 1, [("bob", 5), ("cid", 6)])[:2], (0, []))
        book.shorten("ann", 380, 381)
        self.assertEqual(book.line(), [])

    def test_sixteen(self):
        book = Book([0, 12], (0, 1))
        witness = Witness(self, [0, 12], (0, 1))
        for place, name in enumerate(NAMES[:16]):
            for one in (book, witness):
                one.wish(name, 1, place % 5, 9 + place, (1, 2))
        self.assertEqual(len(book.names()), 16)
        waiting = [row[0] for row in book.line()]
        pairs = [(name, 3 + place) for place, name in enumerate(waiting)]
        look_at_best(self, witness, 1, pairs, refusal(best_of_line, book, 1, pairs))
        book = Book([0], (0, 1))
        witness = Witness(self, [0], (0, 1))
        for place, name in enumerate(NAMES[:16]):
            for one in (book, witness):
                one.wish(name, 1, place % 5, 9 + place, (1, 2))
        pairs = [(name, 3 + place) for place, name in enumerate(NAMES[:16])]
        self.assertEqual(len(book.line()), 16)
        look_at_best(self, witness, 1, pairs, refusal(best_of_line, book, 1, pairs))


class TogetherTest(unittest.TestCase):
    def test_by_hand(self):
        book = book_of([1, 3], (1, 1), [("ann", 2, 0, 4, "in"), ("bob", 2, 1, 3), ("cid", 2, 1, 5)])
        self.assertEqual(book.room_of("ann"), 1)
        self.assertEqual(together(book, ["bob", "cid"]), ("laid", [("bob", 2), ("cid", 3)]))
        self.assertEqual(together(book, ["cid", "bob"]), ("laid", [("cid", 2), ("bob", 3)]))
        self.assertIn(together(book, ["bob"])[1][0][1], (2, 3))

    def test_none(self):
        book = book_of([3], (1, 1), [("ann", 1, 0, 4, "in"), ("bob", 1, 0, 2, "in"), ("cid", 1, 0, 9, "in"),
                                     ("dot", 1, 3, 5), ("eve", 1, 3, 6)])
        self.assertEqual(dict(book.house()), {"ann": 0, "bob": 1, "cid": 2})
        self.assertEqual(together(book, ["dot", "eve"]), ("none", [[]]))
        book = book_of([2], (1, 1), [("ann", 1, 1, 3), ("bob", 1, 1, 3), ("cid", 1, 0, 2)])
        self.assertEqual(together(book, ["ann", "bob"]), ("none", [[(0, 2), (2, 0)], []]))

    def test_from_the_first_night_to_the_last_behind(self):
        book = book_of([2], (1, 1), [("ann", 1, 0, 2), ("bob", 1, 0, 5), ("cid", 1, 3, 4)])
        self.assertEqual(together(book, ["ann", "bob"]), ("none", [[(5, 5)], []]))
        self.assertEqual(together(book, ["ann"])[0], "laid")

    def test_refused(self):
        book = book_of([2, 2, 0], (1, 2), [("ann", 1, 0, 4, "in"), ("bob", 1, 1, 3), ("cid", 1, 2, 3), ("dot", 2, 1, 3),
                                           ("eve", 1, 0, 9), ("fay", 1, 0, 9, (1, 1)), ("gus", 1, 0, 9), ("hal", 1, 0, 9)])
        self.assertEqual(book.state("hal")[0], "waits")
        for name in ["zoe", "", "Ann", "no name"]:
            self.assertEqual(refusal(together, book, [name]), ("NoGuest", name))
            self.assertEqual(refusal(together, book, ["bob", name, "ann"]), ("NoGuest", name))
        self.assertEqual(refusal(together, book, ["bob", "ann", "zoe"]), ("NotTaken", "ann"))
        self.assertEqual(refusal(together, book, ["hal"]), ("NotTaken", "hal"))
        self.assertEqual(refusal(together, book, ["bob", "bob", "zoe"]), ("Stands", "bob"))
        self.assertEqual(refusal(together, book, ["ann", "ann"]), ("NotTaken", "ann"))
        self.assertEqual(refusal(together, book, ["bob", "dot"]), ("NoKind", 2))
        self.assertEqual(refusal(together, book, ["dot", "bob"]), ("NoKind", 1))
        self.assertEqual(refusal(together, book, ["bob", "cid", "dot"]), ("NoKind", 2))
        self.assertEqual(refusal(together, book, ["bob", "cid"]), ("NoStretch", "cid"))
        self.assertEqual(refusal(together, book, ["cid", "bob"]), ("NoStretch", "bob"))

    def test_rooms_of_the_kind(self):
        book = book_of([0, 7], (1, 1), [("ann", 1, 0, 4), ("bob", 2, 0, 4), ("cid", 2, 1, 4)])
        self.assertEqual(refusal(together, book, ["ann"]), ("TooMany", 0))
        self.assertEqual(refusal(together, book, ["bob"]), ("TooMany", 7))
        self.assertEqual(refusal(together, book, ["bob", "cid"]), ("NoStretch", "cid"))
        for many in (1, 6):
            book = book_of([many], (1, 1), [("ann", 1, 0, 4)])
            self.assertEqual(refusal(together, book, ["ann"])[0], "told")

    def test_six_names(self):
        book = Book([5, 6], (1, 1))
        names = NAMES[:6]
        for place, name in enumerate(names):
            book.wish(name, 2, 3, 5 + place)
        self.assertEqual(together(book, names), ("laid", [(name, 5 + place) for place, name in enumerate(names)]))
        self.assertEqual(together(book, names[::-1]), ("laid", [(name, 5 + place) for place, name in
                                                                enumerate(names[::-1])]))

    def test_more_rows_than_are_kept(self):
        book = Book([6], (1, 1))
        for place, name in enumerate(NAMES[:6]):
            book.wish(name, 1, 0, 50 + place)
        self.assertEqual(refusal(together, book, ["ann"]), ("TooMany", 5))
        self.assertEqual(together(book, NAMES[:6])[0], "laid")

    def test_somewhat_beyond_one_to_six_names(self):
        book = Book([6], (1, 1))
        for name in NAMES[:7]:
            book.wish(name, 1, 2, 5)
        self.assertEqual(together(book, NAMES[:7]), ("none", [[]]))
        self.assertEqual(together(book, []), ("laid", []))


class SeasonTest(unittest.TestCase):
    """Books as they are amid a season, each look beside what the test itself finds."""

    def look(self, source, book, witness, seen):
        kept = snapshot(book)
        for kind in range(0, len(witness.ladder) + 2):
            told = refusal(seats_of, book, kind)
            self.assertEqual(told, seats(witness, kind))
            self.assertEqual(refusal(wanted, book, kind), most_wanted(witness, kind))
            waiting = [name for name, one in witness.people.items() if one["word"] == "waits" and one["kind"] == kind]
            source.shuffle(waiting)
            pairs = [(name, source.randint(0, 9)) for name in waiting]
            if source.random() < 0.2:
                pairs.insert(source.randint(0, len(pairs)), (source.choice(NAMES), source.choice([-1, 3, 10 ** 9 + 1])))
            told = refusal(best_of_line, book, kind, pairs)
            look_at_best(self, witness, kind, pairs, told)
            seen.add("best" if told[0] == "told" and told[1][1] else told[0])
        for name in witness.names() + ["nobody"]:
            told = refusal(may_still, book, name)
            self.assertEqual(told, may(witness, name))
            seen.add("may" if told[0] == "told" else told[0])
        for turn in range(4):
            self.look_together(source, book, witness, seen)
        self.assertEqual(snapshot(book), kept)

    def look_together(self, source, book, witness, seen):
        taken = [name for name, one in witness.people.items() if one["word"] == "taken"]
        names = [source.choice(taken + NAMES[:1])]
        like = witness.people.get(names[0])
        if like and source.random() < 0.8:
            taken = [name for name in taken if name != names[0] and witness.people[name]["kind"] == like["kind"]
                     and witness.people[name]["first"] == like["first"]]
        names += source.sample(taken, min(len(taken), source.randint(0, 5)))
        seen.add(look_at_together(self, witness, names, refusal(together, book, names)))

    def test_seasons(self):
        source = random.Random(171)
        seen = set()
        for turn in range(70):
            ladder = source.choice([[1], [2], [3, 2], [1, 2, 1], [0, 3], [6], [7, 1], [2, 2, 2, 2], [4, 4]])
            risk = source.choice([(0, 1), (1, 20), (1, 2), (1, 1)])
            book, witness = Book(ladder, risk), Witness(self, ladder, risk)
            for step in range(60):
                deed, things = random_deed(source, witness)
                told = refusal(getattr(book, deed), *things)
                self.assertEqual(told, done_by(witness, deed, things, told))
                if step % 6 == 5:
                    self.look(source, book, witness, seen)
            look_at(self, book, witness)
        words = {"best", "may", "laid", "none", "NoGuest", "NotTaken", "TooFull", "NoKind", "NoStretch", "NoWish",
                 "TooMany"}
        self.assertEqual(words - seen, set())


class OwnTest(unittest.TestCase):
    def test_what_is_told_is_the_asker_s_own(self):
        book = book_of([2], (0, 1), [("ann", 1, 0, 4, "in"), ("bob", 1, 2, 6), ("cid", 1, 3, 5), ("dot", 1, 6, 7)])
        asks = [(seats_of, 1), (may_still, "bob"), (wanted, 1), (together, ["bob"]), (together, ["dot"])]
        asks_more = [(best_of_line, 1, [("cid", 4)]), (best_of_line, 1, [])]
        kept = snapshot(book)
        for ask, *things in asks + asks_more:
            handed = copy.deepcopy(things)
            told = ask(book, *things)
            wished = copy.deepcopy(told)
            self.assertEqual(things, handed)
            for part in told:
                if isinstance(part, list):
                    part.append("x")
            self.assertEqual(ask(book, *things), wished, ask)
            for thing in handed:
                if isinstance(thing, list):
                    thing.clear()
            self.assertEqual(snapshot(book), kept)

    def test_a_change_of_its_ladder_changes_no_look(self):
        book = book_of([2, 1], (0, 1), [("ann", 1, 0, 4), ("bob", 2, 0, 6), ("cid", 2, 3, 5)])
        told = [seats_of(book, 2), may_still(book, "bob"), wanted(book, 1), together(book, ["ann"])]
        book.ladder.clear()
        self.assertEqual([seats_of(book, 2), may_still(book, "bob"), wanted(book, 1), together(book, ["ann"])], told)

    def test_seats_fit_the_seats_and_plans(self):
        book = book_of([2], (0, 1), [("ann", 1, 0, 4, "in"), ("bob", 1, 2, 6), ("cid", 1, 6, 7)])
        names, stays, rooms = seats_of(book, 1)
        self.assertIs(is_plan(stays, rooms, book.tonight(), seated(stays, rooms, book.tonight())), True)


if __name__ == "__main__":
    unittest.main()
