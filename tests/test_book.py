import random
import unittest

from nightbook.book import Book
from nightbook.errors import NoBook
from tests.oddities import NO_WHOLES
from tests.papers import refusal
from tests.witness import NAMES, Witness, done_by, look_at, random_deed

FAR = 10 ** 299
RISKS = [(0, 1), (1, 100), (1, 20), (1, 4), (1, 2), (1, 1), (123456789, 10 ** 9)]


def random_ladder(source):
    while True:
        ladder = [source.choice([0, 1, 1, 2, 3, 6]) for kind in range(source.randint(1, 4))]
        if sum(ladder) <= 12:
            return ladder


class MadeTest(unittest.TestCase):
    def test_values(self):
        for ladder in ([0], [12], [1, 2, 3], [3, 3, 3, 3]):
            for risk in RISKS:
                book = Book(ladder, risk)
                self.assertEqual((book.ladder, book.risk), (ladder, risk))
                self.assertIsNot(book.ladder, ladder)
                self.assertIs(type(book.ladder), list)

    def test_at_first(self):
        book = Book([1, 2], (1, 10))
        self.assertEqual((book.tonight(), book.names(), book.house(), book.line(), book.story()), (0, [], [], [], []))

    def test_no_ladders(self):
        for ladder in NO_WHOLES + [[], [13], [-1], [0] * 5, (1, 2), [1, True], ["1"], [1.0], 3, [12, 1]]:
            if ladder.__class__ != list or ladder not in ([1], [1, 2]):
                self.assertRaises(NoBook, Book, ladder, (1, 2))

    def test_no_risks(self):
        for risk in NO_WHOLES + [(2, 1), (-1, 2), (2, 4), (1, 0), [1, 2], (1, 10 ** 9 + 1), (1, FAR), (0, 2), (1, True),
                                 1, 0, (3, 2), (1, 2, 3)]:
            if risk.__class__ != tuple or risk != (1, 2):
                self.assertRaises(NoBook, Book, [1], risk)
        for risk in [(1, 10 ** 9), (0, 1), (1, 1), (10 ** 9 - 1, 10 ** 9)]:
            self.assertEqual(Book([1], risk).risk, risk)

    def test_both(self):
        for thing in NO_WHOLES:
            self.assertRaises(NoBook, Book, thing, thing)

    def test_what_was_handed_in_may_change(self):
        ladder = [1]
        book = Book(ladder, (0, 1))
        ladder[0] = 9
        ladder.append(1)
        self.assertEqual(book.ladder, [1])
        self.assertIs(book.wish("ann", 1, 0, 2), True)
        self.assertIs(book.wish("bob", 1, 0, 2), False)
        self.assertEqual(refusal(book.wish, "cid", 2, 0, 2), ("NoKind", 2))

    def test_rooms_are_numbered_by_kinds(self):
        book = Book([2, 0, 1], (1, 1))
        for name, kind in [("ann", 3), ("bob", 1), ("cid", 1)]:
            book.wish(name, kind, 0, 3)
            book.come(name)
        self.assertEqual(sorted(book.house(), key=lambda one: one[1]), [("bob", 0), ("cid", 1), ("ann", 2)])


class WishTest(unittest.TestCase):
    def test_taken_and_waiting(self):
        book = Book([1], (1, 10))
        self.assertIs(book.wish("ann", 1, 0, 3, (1, 2)), True)
        self.assertIs(book.wish("bob", 1, 2, 5, (1, 2)), False)
        self.assertIs(book.wish("cid", 1, 3, 5, (1, 2)), True)
        self.assertEqual(book.line(), [("bob", 2, 1, (1, 4))])
        self.assertEqual(book.names(), ["ann", "bob", "cid"])
        self.assertEqual(book.state("bob"), ("waits", 1, 2, 5, (1, 2)))
        self.assertEqual(book.state("cid"), ("taken", 1, 3, 5, (1, 2)))
        self.assertEqual(book.story(), [(0, "taken", "ann"), (0, "waits", "bob"), (0, "taken", "cid")])

    def test_a_chance_left_out(self):
        book = Book([2], (0, 1))
        book.wish("ann", 1, 0, 3)
        book.wish("bob", 1, 0, 3, None)
        book.wish(name="cid", kind=1, first=0, behind=3, chance=(0, 1))
        self.assertEqual([book.state(name)[4] for name in book.names()], [(1, 1), (1, 1), (0, 1)])
        self.assertEqual([book.state(name)[0] for name in book.names()], ["taken", "taken", "taken"])
        self.assertIs(book.wish("dot", 1, 0, 1, (1, 100)), False)

    def test_better_rooms_serve_too(self):
        book = Book([1, 1], (0, 1))
        self.assertEqual([book.wish(name, 1, 0, 2) for name in ("ann", "bob", "cid")], [True, True, False])
        self.assertEqual(book.line(), [("cid", 0, 1, (1, 1))])
        self.assertIs(book.wish("dot", 2, 0, 2), False)
        self.assertIs(book.wish("eve", 2, 2, 4), True)
        self.assertEqual(book.line()[1], ("dot", 0, 1, (1, 1)))

    def test_who_is_in_the_house_is_sure(self):
        book = Book([1], (1, 2))
        book.wish("ann", 1, 0, 5, (1, 100))
        self.assertIs(book.wish("bob", 1, 1, 5, (1, 2)), True)
        book.come("ann")
        self.assertIs(book.wish("cid", 1, 1, 2, (1, 100)), False)
        self.assertEqual(book.line(), [("cid", 1, 1, (101, 200))])
        self.assertEqual(book.state("ann"), ("house", 1, 0, 5, (1, 100)))

    def test_each_refusal_alone(self):
        book = Book([1, 1], (1, 2))
        book.wish("ann", 1, 0, 3)
        book.close()
        kept = book.story()
        for thing in ["", "Ann", "abcdefghi", "a b", None, 5, ["a"], b"ann", True]:
            self.assertEqual(refusal(book.wish, thing, 1, 1, 3), ("NoName", thing))
        book.wish("ann", 1, 1, 3)
        kept = book.story()
        self.assertEqual(refusal(book.wish, "ann", 1, 1, 3), ("Stands", "ann"))
        for thing in [0, 3, -1, FAR, True, None, "1", 1.0, (1,)]:
            self.assertEqual(refusal(book.wish, "bob", thing, 1, 3), ("NoKind", thing))
        for first, behind in [(0, 3), (3, 3), (4, 3), (1, 401), (-1, 3), (True, 3), (1, None), ("1", 3), (1, 2.0),
                              (400, 401), (1, FAR), ((1, 3), None)]:
            self.assertEqual(refusal(book.wish, "bob", 1, first, behind), ("NoStretch", "bob"))
        for thing in [(2, 1), (-1, 2), (2, 4), (1, 101), (1, 0), [1, 2], 1, 0, "1/2", True, (1, FAR), 0.5, (1, True)]:
            self.assertEqual(refusal(book.wish, "bob", 1, 1, 3, thing), ("NoChance", "bob"))
        self.assertEqual((book.names(), book.story()), (["ann"], kept))
        self.assertIs(book.wish("bob", 2, 1, 400, (1, 100)), True)

    def test_in_the_order_told(self):
        book = Book([1], (1, 2))
        book.wish("ann", 1, 0, 3)
        self.assertEqual(refusal(book.wish, "Ann", 9, 3, 3, 9), ("NoName", "Ann"))
        self.assertEqual(refusal(book.wish, "ann", 9, 3, 3, 9), ("Stands", "ann"))
        self.assertEqual(refusal(book.wish, "bob", 9, 3, 3, 9), ("NoKind", 9))
        self.assertEqual(refusal(book.wish, "bob", 1, 3, 3, 9), ("NoStretch", "bob"))
        self.assertEqual(refusal(book.wish, "bob", 1, 3, 4, 9), ("NoChance", "bob"))

    def test_things_of_every_other_kind(self):
        book = Book([1], (1, 2))
        for thing in NO_WHOLES:
            if thing.__class__ != str or thing != "a":
                error, value = refusal(book.wish, thing, thing, thing, thing, thing)
                self.assertEqual(error, "NoName")
                self.assertIs(value, thing)
            error, value = refusal(book.wish, "ann", thing, thing, thing, thing)
            self.assertEqual(error, "NoKind")
            self.assertIs(value, thing)
            self.assertEqual(refusal(book.wish, "ann", 1, thing, 3), ("NoStretch", "ann"))
            self.assertEqual(refusal(book.wish, "ann", 1, 0, thing, thing), ("NoStretch", "ann"))
            if thing is not None and (thing.__class__ != tuple or thing != (1, 2)):
                self.assertEqual(refusal(book.wish, "ann", 1, 0, 3, thing), ("NoChance", "ann"))
        self.assertEqual(book.story(), [])

    def test_sixteen(self):
        book = Book([2, 1], (1, 4))
        for name in NAMES[:16]:
            book.wish(name, 1, 0, 3, (1, 2))
        self.assertEqual(len(book.names()), 16)
        self.assertTrue(book.line())
        self.assertEqual(refusal(book.wish, "zoe", 1, 0, 3), ("TooMany", 17))
        self.assertEqual(refusal(book.wish, "zoe", 1, 0, 3, (2, 1)), ("NoChance", "zoe"))
        self.assertEqual(refusal(book.wish, "ann", 1, 0, 3), ("Stands", "ann"))
        book.withdraw("ann")
        book.wish("zoe", 1, 0, 3)
        self.assertEqual(refusal(book.wish, "ann", 1, 0, 3), ("TooMany", 17))


class DeedsTest(unittest.TestCase):
    def setUp(self):
        """One room; ann is taken for tonight, bob and cid wait, dot is taken for later."""
        self.book = Book([1], (0, 1))
        self.book.wish("ann", 1, 0, 3)
        self.book.wish("bob", 1, 1, 4)
        self.book.wish("cid", 1, 2, 3)
        self.book.wish("dot", 1, 5, 7)

    def test_withdraw(self):
        self.assertEqual(self.book.withdraw("bob"), [])
        self.assertEqual(self.book.withdraw("ann"), ["cid"])
        self.assertEqual(self.book.names(), ["cid", "dot"])
        self.assertEqual(self.book.story()[4:], [(0, "withdrawn", "bob"), (0, "withdrawn", "ann"), (0, "taken", "cid")])

    def test_the_line_is_gone_through_from_the_first(self):
        self.assertEqual(self.book.withdraw("ann"), ["bob"])
        self.assertEqual(self.book.line(), [("cid", 2, 1, (1, 1))])

    def test_who_is_shortened_and_can_be_taken_then(self):
        self.assertEqual(self.book.shorten("bob", 3, 4), ["bob"])
        self.assertEqual(self.book.state("bob"), ("taken", 1, 3, 4, (1, 1)))
        self.assertEqual(self.book.shorten("ann", 0, 2), ["cid"])
        self.assertEqual(self.book.shorten("dot", 5, 7), [])
        self.assertEqual(self.book.story()[4:], [(0, "shorter", "bob"), (0, "taken", "bob"), (0, "shorter", "ann"),
                                                 (0, "taken", "cid"), (0, "shorter", "dot")])

    def test_who_waits_keeps_its_place(self):
        self.book.shorten("bob", 2, 4)
        self.assertEqual([row[0] for row in self.book.line()], ["bob", "cid"])
        self.assertEqual(self.book.names(), ["ann", "bob", "cid", "dot"])

    def test_come_and_go(self):
        self.assertEqual(self.book.come("ann"), ("in", 0, []))
        self.assertEqual((self.book.house(), self.book.room_of("ann")), ([("ann", 0)], 0))
        self.assertEqual(self.book.state("ann"), ("house", 1, 0, 3, (1, 1)))
        self.assertEqual(self.book.go("ann"), ["bob"])
        self.assertEqual(self.book.house(), [])
        self.assertEqual(refusal(self.book.room_of, "ann"), ("NoGuest", "ann"))
        self.assertEqual(self.book.story()[4:], [(0, "in", "ann"), (0, "gone", "ann"), (0, "taken", "bob")])

    def test_shorten_in_the_house(self):
        self.book.come("ann")
        self.assertEqual(self.book.shorten("ann", 0, 1), ["bob"])
        self.assertEqual(self.book.close(), ([], ["ann"], [], []))

    def test_absent(self):
        self.assertEqual(self.book.absent("ann"), ["bob"])
        self.assertEqual(self.book.names(), ["bob", "cid", "dot"])
        self.assertEqual(self.book.story()[4:], [(0, "absent", "ann"), (0, "taken", "bob")])

    def test_close(self):
        self.assertEqual(self.book.close(), (["ann"], [], [], ["bob"]))
        self.assertEqual(self.book.tonight(), 1)
        self.assertEqual(self.book.come("bob"), ("in", 0, []))
        self.assertEqual(self.book.close(), ([], [], [], []))
        self.assertEqual(self.book.close(), ([], [], ["cid"], []))
        self.assertEqual(self.book.close(), ([], ["bob"], [], []))
        self.assertEqual(self.book.tonight(), 4)
        self.assertEqual(self.book.story()[4:], [(0, "absent", "ann"), (1, "taken", "bob"), (1, "in", "bob"),
                                                 (3, "late", "cid"), (4, "left", "bob")])

    def test_each_refusal(self):
        book = self.book
        book.come("ann")
        kept = (book.names(), book.house(), book.line(), book.story())
        for call in (book.withdraw, book.come, book.absent, book.go, book.state, book.room_of):
            for name in ("zoe", "", "Ann", "no name"):
                self.assertEqual(refusal(call, name), ("NoGuest", name))
            for thing in NO_WHOLES:
                error, value = refusal(call, thing)
                self.assertEqual(error, "NoGuest")
                self.assertIs(value, thing)
        self.assertEqual(refusal(book.shorten, "zoe", 0, 1), ("NoGuest", "zoe"))
        for call in (book.withdraw, book.come, book.absent):
            self.assertEqual(refusal(call, "ann"), ("InHouse", "ann"))
        for call in (book.come, book.absent):
            for name in ("bob", "cid", "dot"):
                self.assertEqual(refusal(call, name), ("NotTonight", name))
        for name in ("bob", "dot"):
            self.assertEqual(refusal(book.go, name), ("NotTonight", name))
            self.assertEqual(refusal(book.room_of, name), ("NoGuest", name))
        for first, behind in [(0, 4), (1, 3), (0, 0), (1, 2), (2, 1)]:
            self.assertEqual(refusal(book.shorten, "ann", first, behind), ("NoStretch", "ann"))
        for first, behind in [(0, 4), (1, 5), (1, 1), (2, 1), (4, 5), (0, 1)]:
            self.assertEqual(refusal(book.shorten, "bob", first, behind), ("NoStretch", "bob"))
        for thing in NO_WHOLES:
            self.assertEqual(refusal(book.shorten, "bob", thing, 4), ("NoStretch", "bob"))
            self.assertEqual(refusal(book.shorten, "bob", 1, thing), ("NoStretch", "bob"))
            self.assertEqual(refusal(book.shorten, "zoe", thing, thing), ("NoGuest", "zoe"))
        self.assertEqual((book.names(), book.house(), book.line(), book.story()), kept)

    def test_one_that_waits_for_tonight_does_not_come(self):
        self.book.wish("eve", 1, 0, 1)
        for call in (self.book.come, self.book.absent):
            self.assertEqual(refusal(call, "eve"), ("NotTonight", "eve"))
        self.assertEqual(self.book.close()[2], ["eve"])

    def test_a_stay_that_ends_no_later_than_tonight(self):
        self.book.come("ann")
        self.book.close()
        self.assertEqual(refusal(self.book.shorten, "ann", 0, 1), ("NoStretch", "ann"))
        self.assertEqual(refusal(self.book.shorten, "ann", 1, 2), ("NoStretch", "ann"))
        self.assertEqual(self.book.shorten("ann", 0, 2), ["cid"])

    def test_who_was_out_comes_last(self):
        self.book.withdraw("ann")
        self.book.wish("ann", 1, 8, 9)
        self.assertEqual(self.book.names(), ["bob", "cid", "dot", "ann"])

    def test_turned_away(self):
        book = Book([1, 1], (1, 1))
        for name, kind in [("ann", 2), ("bob", 2), ("cid", 1), ("dot", 1)]:
            self.assertIs(book.wish(name, kind, 0, 2), True)
        self.assertEqual(book.come("ann"), ("in", 1, []))
        self.assertEqual(book.come("bob"), ("away", 2, []))
        self.assertEqual(book.come("cid"), ("in", 0, []))
        self.assertEqual(book.come("dot"), ("away", 1, []))
        self.assertEqual(book.names(), ["ann", "cid"])
        self.assertEqual(book.story()[4:], [(0, "in", "ann"), (0, "away", "bob"), (0, "in", "cid"), (0, "away", "dot")])

    def test_turned_away_and_another_one_taken(self):
        book = Book([1], (1, 2))
        book.wish("ann", 1, 0, 1)
        book.wish("bob", 1, 0, 9, (1, 2))
        book.wish("cid", 1, 1, 4, (1, 1))
        book.wish("dot", 1, 2, 3, (1, 1))
        self.assertEqual([row[0] for row in book.line()], ["dot"])
        book.come("ann")
        self.assertEqual(book.come("bob"), ("away", 1, []))
        book = Book([1], (1, 2))
        for name, nights, chance in [("ann", (0, 1), (1, 1)), ("bob", (0, 9), (1, 2)), ("cid", (1, 4), (2, 3)),
                                     ("dot", (2, 3), (2, 3))]:
            book.wish(name, 1, nights[0], nights[1], chance)
        self.assertEqual([row[0] for row in book.line()], ["dot"])
        book.come("ann")
        self.assertEqual(book.come("bob"), ("away", 1, ["dot"]))
        self.assertEqual(book.story()[-2:], [(0, "away", "bob"), (0, "taken", "dot")])

    def test_moves_ahead_of_the_in(self):
        book = Book([1, 1, 1], (1, 1))
        for name, kind in [("ann", 1), ("bob", 1), ("cid", 2), ("dot", 3)]:
            book.wish(name, kind, 0, 5)
        book.come("ann")
        book.come("bob")
        book.come("cid")
        self.assertEqual(dict(book.house()), {"ann": 0, "bob": 1, "cid": 2})
        book.go("ann")
        told = book.come("dot")
        self.assertEqual(told, ("in", 2, [(1, 0), (2, 1)]))
        self.assertEqual(book.house(), [("bob", 0), ("cid", 1), ("dot", 2)])
        self.assertEqual(book.story()[-4:], [(0, "gone", "ann"), (0, "moved", "bob"), (0, "moved", "cid"),
                                             (0, "in", "dot")])

    def test_the_last_night(self):
        book = Book([1], (0, 1))
        for night in range(399):
            self.assertEqual(book.close(), ([], [], [], []))
        self.assertEqual(book.tonight(), 399)
        book.wish("ann", 1, 399, 400)
        kept = book.story()
        for turn in range(2):
            self.assertEqual(refusal(book.close), ("TooMany", 400))
        self.assertEqual((book.tonight(), book.names(), book.story()), (399, ["ann"], kept))
        self.assertEqual(book.come("ann"), ("in", 0, []))
        self.assertEqual(refusal(book.close), ("TooMany", 400))
        self.assertEqual(book.go("ann"), [])


class OwnTest(unittest.TestCase):
    def test_what_is_told_is_the_asker_s_own(self):
        book = Book([1, 1], (0, 1))
        for name in ("ann", "bob", "cid"):
            book.wish(name, 1, 0, 3)
        told = book.come("ann")
        told[2].append("x")
        for ask in (book.names, book.house, book.line, book.story):
            wanted, again = list(ask()), ask()
            again.append("x")
            again.reverse()
            self.assertEqual(ask(), wanted)
            self.assertIsNot(ask(), ask())
        kept = (book.names(), book.house(), book.line(), book.story())
        wanted = tuple(list(one) for one in kept)
        names = book.go("ann")
        self.assertEqual(names, ["cid"])
        names.append("x")
        closed = book.close()
        for one in closed:
            one.append("x")
        self.assertEqual(kept, wanted)
        self.assertEqual(book.names(), [])

    def test_a_change_of_its_ladder_changes_nothing_else(self):
        book = Book([1], (0, 1))
        book.ladder.append(5)
        book.ladder[0] = 9
        self.assertEqual([book.wish("ann", 1, 0, 2), book.wish("bob", 1, 0, 2)], [True, False])
        self.assertEqual(refusal(book.wish, "cid", 2, 0, 2), ("NoKind", 2))

    def test_two_books(self):
        one, other = Book([1], (0, 1)), Book([1], (0, 1))
        one.wish("ann", 1, 0, 2)
        one.come("ann")
        one.close()
        self.assertEqual((other.tonight(), other.names(), other.house(), other.story()), (0, [], [], []))
        self.assertIs(other.wish("ann", 1, 0, 2), True)
        self.assertEqual(one.state("ann")[0], "house")

    def test_asking_changes_nothing(self):
        source = random.Random(161)
        books = [Book([1, 1], (1, 4)), Book([1, 1], (1, 4))]
        witness = Witness(self, [1, 1], (1, 4))
        for turn in range(120):
            deed, things = random_deed(source, witness)
            for ask in source.sample(["names", "house", "line", "story", "tonight"], 3):
                getattr(books[0], ask)()
            refusal(books[0].state, source.choice(NAMES))
            refusal(books[0].room_of, source.choice(NAMES))
            told = [refusal(getattr(book, deed), *things) for book in books]
            self.assertEqual(told[0], told[1])
            done_by(witness, deed, things, told[0])
            self.assertEqual(books[0].story(), books[1].story())


class SeasonTest(unittest.TestCase):
    """Whole seasons, each answer beside what the test itself finds by the document's words."""

    def go_on(self, source, ladder, risk, turns, nights=0):
        book, witness = Book(ladder, risk), Witness(self, ladder, risk)
        seen = {}
        for night in range(nights):
            self.assertEqual(refusal(book.close), witness.close())
        for turn in range(turns):
            deed, things = random_deed(source, witness)
            told = refusal(getattr(book, deed), *things)
            wanted = done_by(witness, deed, things, told)
            self.assertEqual(told, wanted, (ladder, risk, deed, things))
            look_at(self, book, witness)
            seen[told[0]] = seen.get(told[0], 0) + 1
        for night, word, name in witness.told:
            seen[word] = seen.get(word, 0) + 1
        return seen

    def test_seasons(self):
        source = random.Random(162)
        seen = {}
        for turn in range(160):
            ladder, risk = random_ladder(source), source.choice(RISKS)
            # Full houses of several kinds, where somebody must move.
            if turn % 3 == 0:
                ladder, risk = source.choice([[1, 1, 1, 1], [2, 1, 1], [1, 2, 1], [3, 3, 3, 3]]), (1, 1)
            found = self.go_on(source, ladder, risk, 100)
            for word, many in found.items():
                seen[word] = seen.get(word, 0) + many
        words = ["told", "NoStretch", "NoKind", "Stands", "NoGuest", "InHouse", "NotTonight", "waits", "taken",
                 "withdrawn",
                 "shorter", "in", "away", "absent", "gone", "left", "late", "moved"]
        self.assertEqual([word for word in words if seen.get(word, 0) < 5], [], seen)

    def test_the_last_nights(self):
        source = random.Random(163)
        seen = {}
        for turn in range(4):
            found = self.go_on(source, [1, 1], (1, 10), 80, 392)
            for word, many in found.items():
                seen[word] = seen.get(word, 0) + many
        self.assertGreater(seen["TooMany"], 2)


if __name__ == "__main__":
    unittest.main()
