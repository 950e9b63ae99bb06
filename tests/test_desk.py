import random
import unittest

from nightbook.book import Book
from nightbook.desk import Desk
from nightbook.errors import NoBook, NoRow
from tests.looking import look_at_best, look_at_together, may, most_wanted
from tests.oddities import NO_WHOLES
from tests.papers import refusal
from tests.witness import NAMES, Witness, done_by, random_deed

ONE_NAME = ["withdraw", "absent", "go", "come", "state", "room", "may"]
ALONE = ["close", "tonight", "names", "house", "line", "story"]
NO_NAMES = ["", "Ann", "a1", "abcdefghi", "1", "an-n", "a.b", "a\n", "/", "3-7", "1/2", "0"]
NO_NUMBERS = ["", "01", "-1", "+1", "a", "1.0", "12345678901", "1/2", "3-7", "00"]
NO_RATIOS = ["", "2/4", "1/1", "0/2", "a", "-1", "1/", "/2", "1/02", "1/2/3", "3-7", "0.5"]
NO_NIGHTS = ["", "3", "3-", "-7", "3-07", "3--7", "a-b", "3/7", "1-2-3", "3_7"]


def said(rows):
    """A desk that was told these rows, and its last answer."""
    desk = Desk()
    for row in rows:
        answer = desk.say(row)
    return desk, answer


class AnswersTest(unittest.TestCase):
    """Each row with each of its answers."""

    def check(self, *rows):
        desk = Desk()
        for row, answer in rows:
            self.assertEqual(desk.say(row), answer, row)
        return desk

    def test_inn(self):
        for row in ["inn 1 risk 0", "inn 0 risk 1", "inn 12 risk 1/20", "inn 1 2 3 risk 1/1000000000",
                    "inn 3 3 3 3 risk 1/2"]:
            self.check((row, "ok"))

    def test_a_new_inn_drops_the_one_ahead(self):
        desk = self.check(("inn 1 risk 0", "ok"), ("wish ann 1 0-3", "taken"),
                          ("close", "absent ann, left, late, taken"),
                          ("inn 2 risk 0", "ok"), ("names", ""), ("tonight", "0"), ("story", ""))
        self.assertEqual(desk.say("wish ann 1 0-3"), "taken")

    def test_wish(self):
        self.check(("inn 1 1 risk 1/10", "ok"), ("wish ann 2 0-3", "taken"), ("wish bob 1 0-3 1/2", "taken"),
                   ("wish cid 1 2-5 1/2", "waits"), ("wish dot 1 2-5 1/100", "taken"), ("wish eve 1 2-3 0", "taken"),
                   ("wish fay 2 2-3 1", "waits"), ("state ann", "taken 2 0-3 1"), ("state bob", "taken 1 0-3 1/2"),
                   ("state cid", "waits 1 2-5 1/2"), ("state eve", "taken 1 2-3 0"), ("names", "ann bob cid dot eve fay"))

    def test_withdraw_shorten_absent_go(self):
        start = [("inn 1 risk 0", "ok"), ("wish zoe 1 0-9", "taken"), ("wish ann 1 0-2", "waits"),
                 ("wish bob 1 2-4", "waits"), ("wish cid 1 3-5", "waits")]
        self.check(*start, ("withdraw cid", "ok"), ("withdraw zoe", "ok ann bob"))
        self.check(*start, ("shorten zoe 0-9", "ok"), ("shorten zoe 0-2", "ok bob"), ("shorten cid 4-5", "ok cid"))
        self.check(*start, ("absent zoe", "ok ann bob"), ("absent ann", "ok"))
        self.check(*start, ("come zoe", "in 0"), ("go zoe", "ok ann bob"), ("come ann", "in 0"), ("go ann", "ok"))

    def test_come(self):
        self.check(("inn 1 1 1 risk 1", "ok"), ("wish ann 1 0-5", "taken"), ("wish bob 1 0-5", "taken"),
                   ("wish cid 2 0-5", "taken"), ("wish dot 3 0-5", "taken"), ("wish eve 3 0-9", "taken"),
                   ("come ann", "in 0"), ("come bob", "in 1"), ("come cid", "in 2"), ("go ann", "ok"),
                   ("come dot", "in 2, 1 to 0, 2 to 1"), ("come eve", "away 3"), ("house", "bob 0, cid 1, dot 2"),
                   ("room bob", "0"), ("room dot", "2"))

    def test_come_and_another_is_taken(self):
        self.check(("inn 1 risk 1/2", "ok"), ("wish ann 1 0-1", "taken"), ("wish bob 1 0-9 1/2", "taken"),
                   ("wish cid 1 1-4 2/3", "taken"), ("wish dot 1 2-3 2/3", "waits"), ("line", "dot 2 1 2/3"),
                   ("come ann", "in 0"), ("come bob", "away 1 dot"), ("line", ""))

    def test_close(self):
        self.check(("inn 1 risk 0", "ok"), ("close", "absent, left, late, taken"), ("wish ann 1 1-2", "taken"),
                   ("wish bob 1 1-4", "waits"), ("wish cid 1 1-2", "waits"), ("wish dot 1 2-3", "taken"),
                   ("close", "absent ann, left, late bob cid, taken"), ("come dot", "in 0"),
                   ("wish eve 1 2-3", "waits"),
                   ("wish fay 1 3-5", "taken"), ("wish gus 1 4-5", "waits"), ("wish hal 1 3-4", "waits"),
                   ("close", "absent, left dot, late eve, taken"), ("close", "absent fay, left, late hal, taken gus"),
                   ("tonight", "4"), ("names", "gus"), ("state gus", "taken 1 4-5 1"))

    def test_story_and_lists(self):
        self.check(("inn 1 risk 0", "ok"), ("names", ""), ("house", ""), ("line", ""), ("story", ""), ("tonight", "0"),
                   ("wish ann 1 0-2", "taken"), ("wish bob 1 1-3 1/2", "waits"), ("wish cid 1 1-4", "waits"),
                   ("line", "bob 1 1 1/2, cid 1 1 1"), ("come ann", "in 0"), ("house", "ann 0"),
                   ("names", "ann bob cid"),
                   ("story", "0 taken ann, 0 waits bob, 0 waits cid, 0 in ann"), ("state ann", "house 1 0-2 1"),
                   ("close", "absent, left, late, taken"), ("go ann", "ok bob"),
                   ("story", "0 taken ann, 0 waits bob, 0 waits cid, 0 in ann, 1 gone ann, 1 taken bob"))

    def test_may_and_wanted(self):
        self.check(("inn 1 2 risk 1", "ok"), ("wanted 1", "0 at 0"), ("wish zoe 1 0-9", "taken"),
                   ("wish ann 2 0-2", "taken"),
                   ("wish bob 2 0-3", "taken"), ("come zoe", "in 0"), ("come ann", "in 1"), ("come bob", "in 2"),
                   ("wish cid 2 2-5", "taken"), ("wish dot 2 3-6", "taken"), ("may cid", "1"), ("may dot", "2"),
                   ("wanted 2", "2 at 0"), ("withdraw cid", "ok"), ("may dot", "1 2"), ("wanted 1", "1 at 0"))

    def test_best(self):
        self.check(("inn 0 risk 0", "ok"), ("best 1", "0 for"), ("wish ann 1 3-4", "waits"), ("best 1 ann 0", "0 for"),
                   ("best 1 ann 5", "0 for, 3 at 5"), ("best 1", "0 for"))
        self.check(("inn 1 1 risk 0", "ok"), ("wish zoe 1 0-1", "taken"), ("wish bob 1 0-9", "taken"),
                   ("come zoe", "in 0"),
                   ("come bob", "in 1"), ("go zoe", "ok"), ("wish ann 2 0-9", "taken"), ("wish cid 1 2-3", "waits"),
                   ("wish dot 1 3-4", "waits"), ("wish eve 1 3-4", "waits"), ("best 1 cid 9 dot 0", "9 for cid"),
                   ("best 1 dot 5 cid 9 eve 5", "14 for dot cid, 3 at 5"))

    def test_together(self):
        self.check(("inn 1 3 risk 1", "ok"), ("wish ann 2 0-4", "taken"), ("come ann", "in 1"),
                   ("wish bob 2 1-3", "taken"),
                   ("wish cid 2 1-5", "taken"), ("together bob cid", "laid bob 2 cid 3"),
                   ("together cid bob", "laid cid 2 bob 3"))
        self.check(("inn 2 risk 1", "ok"), ("wish ann 1 3-5", "taken"), ("wish bob 1 3-5", "taken"),
                   ("wish cid 1 0-4", "taken"), ("together ann bob", "none / 0.4 4.0 /"))
        self.check(("inn 2 risk 1", "ok"), ("wish ann 1 0-4", "taken"), ("come ann", "in 0"),
                   ("wish bob 1 3-5", "taken"),
                   ("wish cid 1 3-6", "taken"), ("together cid bob", "none /"), ("together cid", "none / 4.6 /"))

    def test_six_names_side_by_side(self):
        desk, answer = said(["inn 5 6 risk 1"] + [f"wish {name} 2 3-9" for name in NAMES[:6]])
        row = " ".join(NAMES[:6])
        wished = " ".join(f"{name} {5 + place}" for place, name in enumerate(NAMES[:6]))
        self.assertEqual(desk.say("together " + row), "laid " + wished)


class NoRowTest(unittest.TestCase):
    def setUp(self):
        self.desk, answer = said(["inn 2 1 risk 1/2", "wish ann 1 0-3", "wish bob 2 0-3"])
        self.new = Desk()

    def refused(self, row):
        # Ahead of NoBook, too: a desk without an inn refuses it alike.
        self.assertRaises(NoRow, self.desk.say, row)
        self.assertRaises(NoRow, self.new.say, row)

    def tearDown(self):
        self.assertEqual(self.desk.say("story"), "0 taken ann, 0 taken bob")

    def test_what_is_no_text(self):
        for row in NO_WHOLES + [5, ["close"], ("close",), b"close", {"close": 1}, ["inn", "1"]]:
            if row.__class__ != str:
                self.refused(row)

    def test_no_row_of_these(self):
        for row in ["", " ", "x", "Close", "CLOSE", "closes", "wishes ann 1 0-3", "ann", "1", "risk 1/2",
                    "inns 1 risk 0",
                    "close\n", "\nclose", "close\t", "seats 1", "seats_of 1", "may_still ann", "room_of ann", "ok", "taken"]:
            self.refused(row)

    def test_blanks(self):
        for row in ["close", "tonight", "state ann", "wish cid 1 0-3", "wish cid 1 0-3 1/2", "together ann", "best 1",
                    "inn 1 risk 0", "inn 1 2 risk 1/2", "shorten ann 0-1", "wanted 1"]:
            for wrong in [" " + row, row + " ", row.replace(" ", "  "), "  " + row, row.replace(" ", "\t")]:
                if wrong != row:
                    self.refused(wrong)

    def test_too_few_and_too_many_words(self):
        for word in ONE_NAME:
            for row in [word, word + " ann bob", word + " ann 1"]:
                self.refused(row)
        for word in ALONE:
            for row in [word + " ann", word + " 1", word + " " + word]:
                self.refused(row)
        for row in ["wish", "wish ann", "wish ann 1", "wish ann 1 0-3 1/2 1/2", "shorten", "shorten ann",
                    "shorten ann 0-1 1",
                    "wanted", "wanted 1 2", "best", "best 1 ann", "best 1 ann 3 bob", "together", "inn", "inn risk",
                    "inn 1",
                    "inn risk 1/2", "inn 1 risk", "inn 1 2 3 4 5 risk 1/2", "inn 1 risk 1/2 1/2", "inn 1 2 3 4 risk",
                    "together " + " ".join(NAMES[:7]), "best 1" + " ann 1" * 17]:
            self.refused(row)

    def test_words_that_are_no_names(self):
        for name in NO_NAMES:
            for word in ONE_NAME:
                self.refused(f"{word} {name}")
            for row in [f"wish {name} 1 0-3", f"shorten {name} 0-1", f"best 1 {name} 3", f"best 1 ann 3 {name} 3",
                        f"together {name}", f"together ann {name}", f"together {name} ann"]:
                self.refused(row)

    def test_words_that_are_no_numbers(self):
        for number in NO_NUMBERS:
            for row in [f"wish cid {number} 0-3", f"wanted {number}", f"best {number}", f"best {number} ann 3",
                        f"best 1 ann {number}", f"inn {number} risk 1/2", f"inn 1 {number} risk 1/2"]:
                self.refused(row)

    def test_words_that_are_no_ratios(self):
        for ratio in NO_RATIOS:
            for row in [f"inn 1 risk {ratio}", f"wish cid 1 0-3 {ratio}"]:
                self.refused(row)

    def test_words_that_are_no_nights(self):
        for nights in NO_NIGHTS:
            for row in [f"wish cid 1 {nights}", f"wish cid 1 {nights} 1/2", f"shorten ann {nights}"]:
                self.refused(row)

    def test_the_word_risk(self):
        for row in ["inn 1 Risk 1/2", "inn 1 risks 1/2", "inn 1 2 1/2", "inn 1 2 3", "inn risk 1 1/2",
                    "inn 1 risk risk",
                    "inn 1 3-7 1/2", "inn 1 2 3-7 1/2", "inn 1 1/2 1/2", "inn 1 ann 1/2"]:
            self.refused(row)


class NoBookTest(unittest.TestCase):
    def test_ahead_of_every_inn(self):
        desk = Desk()
        rows = [f"{word} ann" for word in ONE_NAME] + ALONE
        rows += ["wish ann 1 0-3", "wish ann 9 3-0 3/2", "shorten ann 0-1", "wanted 1", "wanted 9", "best 1",
                 "best 9 ann 3",
                 "together ann", "together ann ann"]
        for row in rows:
            self.assertRaises(NoBook, desk.say, row)
        self.assertEqual(desk.say("inn 1 risk 0"), "ok")
        self.assertEqual(desk.say("names"), "")

    def test_an_inn_that_makes_no_book(self):
        rows = ["inn 13 risk 0", "inn 12 1 risk 0", "inn 3 3 3 4 risk 1/2", "inn 9999999999 risk 0", "inn 1 risk 2",
                "inn 1 risk 3/2", "inn 1 risk 1/1000000001", "inn 1 risk 1/9999999999"]
        for row in rows:
            self.assertRaises(NoBook, Desk().say, row)
        desk, answer = said(["inn 1 risk 0", "wish ann 1 0-3", "come ann"])
        for row in rows + rows:
            self.assertRaises(NoBook, desk.say, row)
            self.assertEqual(desk.say("house"), "ann 0")
            self.assertEqual(desk.say("story"), "0 taken ann, 0 in ann")
        self.assertEqual(desk.say("inn 1 risk 1/1000000000"), "ok")
        self.assertEqual(desk.say("house"), "")

    def test_no_row_goes_first(self):
        desk = Desk()
        for row in ["inn 13 risk 2/4", "close now", "wish Ann 1 0-3", "inn 13 2 risk x"]:
            self.assertRaises(NoRow, desk.say, row)


class RefusedTest(unittest.TestCase):
    """As stage 8 refuses, each alone and several in the order told; nothing is changed by it."""

    def test_each(self):
        desk, answer = said(["inn 2 1 0 risk 1/2", "wish ann 1 0-4", "wish ida 1 1-3", "wish jon 1 1-3",
                             "wish bob 1 1-3 0", "wish cid 1 2-3 0", "wish dot 2 1-3 0", "come ann",
                             "wish fay 3 5-6 1/2", "wish gus 1 1-3", "wish hal 3 5-6"])
        kept = [desk.say(row) for row in ALONE if row != "close"]
        self.assertEqual(desk.say("line"), "gus 1 1 1, hal 5 3 1")
        for row, wanted in [
                ("wish ann 9 3-0 3/2", ("Stands", "ann")), ("wish zoe 4 3-0 3/2", ("NoKind", 4)),
                ("wish zoe 0 3-0", ("NoKind", 0)), ("wish zoe 9999999999 3-4", ("NoKind", 9999999999)),
                ("wish zoe 1 3-0 3/2", ("NoStretch", "zoe")), ("wish zoe 1 0-401", ("NoStretch", "zoe")),
                ("wish zoe 1 3-3", ("NoStretch", "zoe")), ("wish zoe 1 0-3 3/2", ("NoChance", "zoe")),
                ("wish zoe 1 0-3 1/101", ("NoChance", "zoe")), ("withdraw zoe", ("NoGuest", "zoe")),
                ("withdraw ann", ("InHouse", "ann")), ("shorten zoe 3-0", ("NoGuest", "zoe")),
                ("shorten ann 1-3", ("NoStretch", "ann")), ("shorten bob 0-3", ("NoStretch", "bob")),
                ("shorten bob 3-1", ("NoStretch", "bob")), ("come zoe", ("NoGuest", "zoe")),
                ("come ann", ("InHouse", "ann")), ("come bob", ("NotTonight", "bob")),
                ("absent zoe", ("NoGuest", "zoe")),
                ("absent ann", ("InHouse", "ann")), ("absent gus", ("NotTonight", "gus")),
                ("go zoe", ("NoGuest", "zoe")),
                ("go bob", ("NotTonight", "bob")), ("state zoe", ("NoGuest", "zoe")), ("room bob", ("NoGuest", "bob")),
                ("room zoe", ("NoGuest", "zoe")), ("may zoe", ("NoGuest", "zoe")), ("may ann", ("NotTaken", "ann")),
                ("may gus", ("NotTaken", "gus")), ("may bob", ("TooFull", 1)), ("wanted 0", ("NoKind", 0)),
                ("wanted 4", ("NoKind", 4)), ("best 4 zoe 1", ("NoKind", 4)), ("best 1 zoe 1", ("NoGuest", "zoe")),
                ("best 1 hal 1", ("NoGuest", "hal")), ("best 1 bob 1", ("NoGuest", "bob")),
                ("best 1 gus 1 gus 1", ("NoGuest", "gus")), ("best 1 gus 1000000001 zoe 1", ("NoWish", 0)),
                ("together zoe", ("NoGuest", "zoe")), ("together bob gus", ("NotTaken", "gus")),
                ("together bob bob dot", ("Stands", "bob")), ("together bob dot cid", ("NoKind", 2)),
                ("together bob cid", ("NoStretch", "cid")), ("together fay", ("TooMany", 0))]:
            self.assertEqual(refusal(desk.say, row), wanted, row)
            self.assertEqual([desk.say(ask) for ask in ALONE if ask != "close"], kept, row)
        self.assertEqual(desk.say("wish zoe 3 0-3 0"), "taken")

    def test_sixteen(self):
        desk, answer = said(["inn 1 risk 1"] + [f"wish {name} 1 0-3" for name in NAMES[:16]])
        self.assertEqual(refusal(desk.say, "wish zoe 1 0-3"), ("TooMany", 17))
        self.assertEqual(desk.say("names"), " ".join(NAMES[:16]))

    def test_sixteen_pairs(self):
        desk, answer = said(["inn 0 risk 0"] + [f"wish {name} 1 0-3" for name in NAMES[:16]])
        row = "best 1" + "".join(f" {name} 7" for name in NAMES[:16])
        self.assertEqual(desk.say(row)[:5], "0 for")
        self.assertRaises(NoRow, desk.say, row + " zoe 7")

    def test_the_last_night(self):
        desk, answer = said(["inn 1 risk 0"] + ["close"] * 399)
        self.assertEqual(desk.say("tonight"), "399")
        self.assertEqual(refusal(desk.say, "close"), ("TooMany", 400))
        self.assertEqual(desk.say("tonight"), "399")

    def test_more_rows_than_are_kept(self):
        desk, answer = said(["inn 6 risk 1"] + [f"wish {name} 1 0-{50 + place}" for place, name in enumerate(NAMES[:6])])
        self.assertEqual(refusal(desk.say, "together ann"), ("TooMany", 5))


class OwnTest(unittest.TestCase):
    def test_two_desks(self):
        one, other = Desk(), Desk()
        one.say("inn 1 risk 0")
        self.assertRaises(NoBook, other.say, "names")
        other.say("inn 1 risk 0")
        one.say("wish ann 1 0-3")
        self.assertEqual((one.say("names"), other.say("names")), ("ann", ""))
        other.say("close")
        self.assertEqual((one.say("tonight"), other.say("tonight")), ("0", "1"))

    def test_asking_changes_nothing(self):
        rows = ["inn 2 1 risk 1/4", "wish ann 1 0-3", "wish bob 2 0-9 1/2", "wish cid 1 1-4", "wish dot 1 1-4",
                "come ann"]
        asks = ["tonight", "names", "state ann", "room ann", "house", "line", "story", "may cid", "wanted 1",
                "best 1 dot 5",
                "together cid", "room zoe", "x", "inn 13 risk 0", "may ann"]
        desk, answer = said(rows)
        first = [refusal(desk.say, ask) for ask in asks]
        source = random.Random(181)
        for turn in range(10):
            for ask in source.sample(asks, len(asks)):
                self.assertEqual(refusal(desk.say, ask), first[asks.index(ask)])
        other, answer = said(rows)
        for row in ["close", "close", "go ann", "story", "names", "line"]:
            self.assertEqual(refusal(desk.say, row), refusal(other.say, row))


def row_of_deed(deed, things):
    """The row by which a deed is told, None where it can't be written."""
    if deed == "wish":
        name, kind, first, behind = things[:4]
        if min(kind, first, behind) < 0:
            return None
        chance = "" if len(things) == 4 else " " + shown(things[4])
        return f"wish {name} {kind} {first}-{behind}{chance}"
    if deed == "shorten":
        return None if min(things[1:]) < 0 else f"shorten {things[0]} {things[1]}-{things[2]}"
    return " ".join((deed,) + things)


def shown(chance):
    return f"{chance[0]}/{chance[1]}" if chance[1] != 1 else f"{chance[0]}"


def read_chance(text):
    top, slash, bottom = text.partition("/")
    return (int(top), int(bottom or "1"))


def read_answer(deed, text):
    """What a deed's text tells, in the form in which a book tells it."""
    words = text.split(" ")
    if deed == "wish":
        return {"taken": True, "waits": False}[text]
    if deed == "close":
        parts = [part.split(" ") for part in text.split(", ")]
        assert [part[0] for part in parts] == ["absent", "left", "late", "taken"], text
        return tuple(part[1:] for part in parts)
    if deed == "come" and words[0] == "in":
        parts = text.split(", ")
        moves = [tuple(int(room) for room in part.split(" to ")) for part in parts[1:]]
        return ("in", int(parts[0][3:]), moves)
    if deed == "come":
        assert words[0] == "away", text
        return ("away", int(words[1]), words[2:])
    assert words[0] == "ok", text
    return words[1:]


def rows_in(text):
    return [part.split(" ") for part in text.split(", ")] if text else []


class SeasonTest(unittest.TestCase):
    """Whole seasons by texts alone: what they tell is enough to see that each answer is right."""

    def ask_all(self, desk, witness):
        self.assertEqual(desk.say("tonight"), str(witness.now))
        self.assertEqual(desk.say("names"), " ".join(witness.names()))
        self.assertEqual([(name, int(room)) for name, room in rows_in(desk.say("house"))], witness.house())
        line = [(name, int(night), int(kind), read_chance(text)) for name, night, kind, text in rows_in(desk.say("line"))]
        self.assertEqual(line, witness.line())
        story = [(int(night), word, name) for night, word, name in rows_in(desk.say("story"))]
        self.assertEqual(story, witness.told)
        for name in witness.names():
            word, kind, first, behind, chance = witness.state(name)
            self.assertEqual(desk.say("state " + name), f"{word} {kind} {first}-{behind} {shown(chance)}")
        for name, room in witness.house():
            self.assertEqual(desk.say("room " + name), str(room))

    def look(self, source, desk, witness, seen):
        for name in witness.names():
            told, wanted = refusal(desk.say, "may " + name), may(witness, name)
            if told[0] == "told":
                told = ("told", [int(room) for room in told[1].split(" ")])
            self.assertEqual(told, wanted)
        for kind in range(1, len(witness.ladder) + 1):
            many, night = most_wanted(witness, kind)[1]
            self.assertEqual(desk.say(f"wanted {kind}"), f"{many} at {night}")
            waiting = [name for name, one in witness.people.items() if one["word"] == "waits" and one["kind"] == kind]
            pairs = [(name, source.randint(0, 9)) for name in waiting]
            text = desk.say(f"best {kind}" + "".join(f" {name} {worth}" for name, worth in pairs))
            parts = text.split(", ")
            words = parts[0].split(" ")
            self.assertEqual(words[1], "for")
            prices = [tuple(int(number) for number in part.split(" at ")) for part in parts[1:]]
            look_at_best(self, witness, kind, pairs, ("told", (int(words[0]), words[2:], prices)))
            seen.add("best" if prices else "free")
        self.look_together(source, desk, witness, seen)

    def look_together(self, source, desk, witness, seen):
        taken = [name for name, one in witness.people.items() if one["word"] == "taken"]
        if not taken:
            return
        like = witness.people[source.choice(taken)]
        names = [name for name in taken if (witness.people[name]["kind"], witness.people[name]["first"])
                 == (like["kind"], like["first"])][:6]
        told = refusal(desk.say, "together " + " ".join(names))
        if told[0] == "told":
            words = told[1].split(" ")
            if words[0] == "laid":
                told = ("told", ("laid", [(name, int(room)) for name, room in zip(words[1::2], words[2::2])]))
            else:
                lists = []
                for word in words[1:]:
                    if word == "/":
                        lists.append([])
                    else:
                        lists[-1].append(tuple(int(night) for night in word.split(".")))
                told = ("told", ("none", lists))
        seen.add(look_at_together(self, witness, names, told))

    def go_on(self, source, ladder, risk, turns, seen):
        desk, witness = Desk(), Witness(self, ladder, risk)
        counts = " ".join(str(many) for many in ladder)
        self.assertEqual(desk.say(f"inn {counts} risk {shown(risk)}"), "ok")
        for turn in range(turns):
            deed, things = random_deed(source, witness)
            row = row_of_deed(deed, things)
            if row is None:
                continue
            told = refusal(desk.say, row)
            answer = ("told", read_answer(deed, told[1])) if told[0] == "told" else told
            self.assertEqual(answer, done_by(witness, deed, things, answer), row)
            seen.add(deed if told[0] == "told" else told[0])
            if turn % 5 == 4:
                self.ask_all(desk, witness)
            if turn % 10 == 9:
                self.look(source, desk, witness, seen)
        self.ask_all(desk, witness)
        # Nobody was turned away who could be seated, and who waits has a night that hinders it.
        for name, night, kind, chance in witness.line():
            self.assertGreater(chance[0] * risk[1], risk[0] * chance[1])

    def test_seasons(self):
        source = random.Random(182)
        seen = set()
        for turn in range(60):
            ladder = source.choice([[1], [2], [3, 2], [1, 2, 1], [0, 3], [6], [1, 1, 1, 1], [2, 2, 2, 2], [4, 4]])
            self.go_on(source, ladder, source.choice([(0, 1), (1, 20), (1, 2), (1, 7), (1, 1)]), 100, seen)
        words = {"wish", "come", "withdraw", "shorten", "absent", "go", "close", "best", "free", "laid", "none",
                 "NoGuest",
                 "NotTonight", "InHouse", "NoStretch", "NoKind", "Stands"}
        self.assertEqual(words - seen, set())

    def test_the_book_and_the_desk_tell_the_same(self):
        source = random.Random(183)
        for turn in range(10):
            book, desk, witness = Book([2, 1, 1], (1, 4)), Desk(), Witness(self, [2, 1, 1], (1, 4))
            desk.say("inn 2 1 1 risk 1/4")
            for step in range(80):
                deed, things = random_deed(source, witness)
                row = row_of_deed(deed, things)
                if row is not None:
                    told = refusal(getattr(book, deed), *things)
                    text = refusal(desk.say, row)
                    self.assertEqual(("told", read_answer(deed, text[1])) if text[0] == "told" else text, told)
                    self.assertEqual(told, done_by(witness, deed, things, told))


if __name__ == "__main__":
    unittest.main()
