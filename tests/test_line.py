"""The line of a book: who is taken from it and when, and what it tells of those who wait."""

import random
import unittest
from fractions import Fraction

from nightbook.book import Book
from nightbook.chances import chance_at, tight
from tests.papers import refusal
from tests.witness import Witness, done_by, random_deed


def stays_beside(book):
    """The stays of all who are taken, with their chances, and of all in the house, who are sure."""
    states = [book.state(name) for name in book.names()]
    return [(first, behind, kind, (1, 1) if word == "house" else chance)
            for word, kind, first, behind, chance in states if word != "waits"]


class LineTest(unittest.TestCase):
    def test_it_tells_what_tight_tells(self):
        source = random.Random(191)
        rows = 0
        for turn in range(40):
            ladder = source.choice([[1], [1, 1], [2, 1, 1], [0, 2], [1, 0, 1, 1]])
            risk = source.choice([(0, 1), (1, 20), (1, 3)])
            book, witness = Book(ladder, risk), Witness(self, ladder, risk)
            for step in range(60):
                deed, things = random_deed(source, witness)
                done_by(witness, deed, things, refusal(getattr(book, deed), *things))
                waiting = [name for name in book.names() if book.state(name)[0] == "waits"]
                self.assertEqual([row[0] for row in book.line()], waiting)
                for name, night, kind, chance in book.line():
                    word, own, first, behind, held = book.state(name)
                    new = (first, behind, own, held)
                    self.assertEqual(tight(stays_beside(book), new, ladder, risk), (night, kind, chance))
                    self.assertEqual(chance_at(stays_beside(book) + [new], night, kind, ladder), chance)
                    self.assertGreater(Fraction(*chance), Fraction(*risk))
                    rows += 1
        self.assertGreater(rows, 500)

    def test_in_the_order_of_coming_to_the_book(self):
        book = Book([1], (0, 1))
        for name, nights in [("zoe", (0, 9)), ("dot", (5, 6)), ("ann", (3, 4)), ("cid", (4, 6)), ("bob", (0, 2))]:
            book.wish(name, 1, *nights)
        self.assertEqual([row[0] for row in book.line()], ["dot", "ann", "cid", "bob"])
        self.assertEqual(book.withdraw("zoe"), ["dot", "ann", "bob"])
        self.assertEqual(book.line(), [("cid", 5, 1, (1, 1))])
        self.assertEqual(book.story()[-4:], [(0, "withdrawn", "zoe"), (0, "taken", "dot"), (0, "taken", "ann"),
                                             (0, "taken", "bob")])

    def test_it_is_gone_through_behind_each_deed(self):
        def start(chance=(1, 1)):
            book = Book([1], (0, 1))
            book.wish("zoe", 1, 0, 4, chance)
            book.wish("ann", 1, 2, 5)
            self.assertEqual([row[0] for row in book.line()], ["ann"])
            return book
        self.assertEqual(start().withdraw("zoe"), ["ann"])
        self.assertEqual(start().shorten("zoe", 0, 2), ["ann"])
        self.assertEqual(start().shorten("ann", 4, 5), ["ann"])
        self.assertEqual(start().absent("zoe"), ["ann"])
        self.assertEqual(start((1, 2)).close(), (["zoe"], [], [], ["ann"]))
        book = start()
        self.assertEqual(book.come("zoe"), ("in", 0, []))
        self.assertEqual(book.go("zoe"), ["ann"])
        book = start()
        book.come("zoe")
        book.shorten("zoe", 0, 3)
        self.assertEqual(book.close(), ([], [], [], []))
        self.assertEqual(book.shorten("zoe", 0, 2), ["ann"])

    def test_who_goes_when_its_nights_are_over_leaves_nothing(self):
        book = Book([1], (0, 1))
        book.wish("zoe", 1, 0, 2)
        book.wish("ann", 1, 1, 5)
        book.come("zoe")
        self.assertEqual(book.close(), ([], [], [], []))
        self.assertEqual(book.close(), ([], ["zoe"], ["ann"], []))

    def test_a_wish_behind_goes_ahead_where_it_fits(self):
        book = Book([1], (0, 1))
        book.wish("zoe", 1, 0, 4)
        self.assertIs(book.wish("ann", 1, 3, 5), False)
        self.assertIs(book.wish("bob", 1, 4, 6), True)
        self.assertEqual(book.withdraw("zoe"), [])
        self.assertEqual(book.line(), [("ann", 4, 1, (1, 1))])


if __name__ == "__main__":
    unittest.main()
