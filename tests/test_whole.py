"""What is promised over the whole program: wishes and their risk, evenings, plans and exchanges, the best and groups."""

import random
import unittest
from fractions import Fraction

from nightbook.book import Book
from nightbook.desk import Desk
from nightbook.exchanges import exchanged, led
from nightbook.plans import is_plan
from nightbook.prices import best
from nightbook.reach import is_shut, may_have, rooms_for
from nightbook.seats import seated
from nightbook.sides import is_laid, is_none, laid
from nightbook.worth import bound_by, is_best
from tests.papers import (all_places, all_plans, are_places, choices_of, is_a_plan, leads_to_nothing, nights,
                          prices_hold,
                          random_plan, random_stays, refusal, shuts)
from tests.test_sides import random_groups
from tests.test_worth import random_wishes
from tests.witness import Witness, chance_of_more, done_by, random_deed

LADDERS = [[1], [2], [1, 1], [2, 2, 1], [1, 1, 1, 1], [0, 3], [3, 0, 2]]
RISKS = [(0, 1), (1, 50), (1, 10), (1, 3), (1, 1)]


def chances_for(book, ladder, name):
    """For each night and kind up to its own: that more come than there are such rooms, this one among them."""
    word, kind, first, behind, chance = book.state(name)
    found = {}
    for night in range(first, behind):
        for level in range(1, kind + 1):
            chances = [chance if word != "house" else (1, 1)]
            for other in book.names():
                state = book.state(other)
                if other != name and state[0] != "waits" and state[1] >= level and state[2] <= night < state[3]:
                    chances.append((1, 1) if state[0] == "house" else state[4])
            found[night, level] = chance_of_more(chances, sum(ladder[level - 1:]))
    return found


class PromiseTest(unittest.TestCase):
    """Points 5 and 6, by the book alone."""

    def taken_now(self, book, deed, things, told):
        if told[0] != "told":
            return []
        if deed == "wish":
            return [things[0]] if told[1] else []
        if deed == "come":
            return told[1][2] if told[1][0] == "away" else []
        return told[1][3] if deed == "close" else told[1]

    def look_at_wishes(self, book, ladder, risk, taken):
        # Who was taken last was taken beside all others: of the others it was so when fewer were there.
        if taken:
            self.assertLessEqual(max(chances_for(book, ladder, taken[-1]).values()), Fraction(*risk))
        for name, night, kind, chance in book.line():
            found = chances_for(book, ladder, name)
            self.assertGreater(Fraction(*chance), Fraction(*risk))
            self.assertEqual(found[night, kind], Fraction(*chance))
            self.assertEqual((night, kind), min(place for place in found if found[place] > Fraction(*risk)))

    def look_at_house(self, book, kinds):
        rooms = [room for name, room in book.house()]
        self.assertEqual(len(set(rooms)), len(rooms))
        for name, room in book.house():
            self.assertGreaterEqual(kinds[room], book.state(name)[1])
            self.assertLessEqual(book.state(name)[2], book.tonight())
            self.assertGreater(book.state(name)[3], book.tonight())

    def test_seasons(self):
        source = random.Random(201)
        seen = {"taken": 0, "waits": 0, "in": 0, "away": 0}
        for turn in range(50):
            ladder, risk = source.choice(LADDERS), source.choice(RISKS)
            kinds = [kind + 1 for kind, many in enumerate(ladder) for room in range(many)]
            book, witness = Book(ladder, risk), Witness(self, ladder, risk)
            for step in range(70):
                deed, things = random_deed(source, witness)
                before = [book.state(name)[1] for name, room in book.house()]
                kind = book.state(things[0])[1] if deed == "come" and things[0] in book.names() else None
                told = refusal(getattr(book, deed), *things)
                done_by(witness, deed, things, told)
                self.look_at_wishes(book, ladder, risk, self.taken_now(book, deed, things, told))
                self.look_at_house(book, kinds)
                if deed == "come" and told[0] == "told":
                    wished = before + [kind]
                    short = [level for level in range(1, kind + 1)
                             if sum(one >= level for one in wished) > sum(ladder[level - 1:])]
                    self.assertEqual(told[1][0], "away" if short else "in")
                    if short:
                        self.assertIn(told[1][1], short)
            for night, word, name in book.story():
                if word in seen:
                    seen[word] += 1
        self.assertGreater(min(seen.values()), 20, seen)

    def test_who_is_in_the_house_keeps_a_room_till_it_goes(self):
        source = random.Random(202)
        for turn in range(30):
            ladder = source.choice(LADDERS)
            kinds = [kind + 1 for kind, many in enumerate(ladder) for room in range(many)]
            book, witness = Book(ladder, (1, 1)), Witness(self, ladder, (1, 1))
            inside = set()
            for step in range(70):
                deed, things = random_deed(source, witness)
                told = refusal(getattr(book, deed), *things)
                done_by(witness, deed, things, told)
                if deed == "go" and told[0] == "told":
                    inside.discard(things[0])
                if deed == "close" and told[0] == "told":
                    inside -= set(told[1][1])
                if deed == "come" and told[0] == "told" and told[1][0] == "in":
                    inside.add(things[0])
                self.assertEqual(inside, {name for name, room in book.house()})
                self.look_at_house(book, kinds)

    def test_an_evening_that_fits_turns_nobody_away(self):
        source = random.Random(203)
        for turn in range(300):
            ladder = source.choice(LADDERS)
            book = Book(ladder, (1, 1))
            wished = []
            for name in ["ann", "bob", "cid", "dot", "eve", "fay"]:
                kind = source.randint(1, len(ladder))
                more = wished + [kind]
                if all(sum(one >= level for one in more) <= sum(ladder[level - 1:]) for level in range(1, len(ladder) + 1)):
                    book.wish(name, kind, 0, 3)
                    wished = more
            names = book.names()
            source.shuffle(names)
            for name in names:
                self.assertEqual(book.come(name)[0], "in")
            self.assertEqual(len(book.house()), len(wished))


class PlansTest(unittest.TestCase):
    """Point 7."""

    def test_a_plan_or_a_night(self):
        source = random.Random(204)
        seen = {"plan": 0, "night": 0}
        for turn in range(300):
            rooms, now = source.randint(0, 4), source.choice([0, 5])
            stays = random_stays(source, 8, now, source.randint(0, 6), now + 6)
            stays = [stay for stay in stays if stay[2] is None or stay[2] < rooms]
            told = refusal(seated, stays, rooms, now)
            if told[0] == "told":
                self.assertTrue(is_a_plan(stays, rooms, told[1]))
                seen["plan"] += 1
            else:
                self.assertGreater(sum(told[1] in nights(stay) for stay in stays), rooms)
                self.assertEqual(all_plans(stays, rooms), [])
                seen["night"] += 1
        self.assertGreater(min(seen.values()), 50)

    def test_each_stay_and_each_room(self):
        source = random.Random(205)
        for turn in range(80):
            rooms = source.randint(1, 3)
            stays = random_stays(source, rooms, 2, 6, 9, tries=80)
            plans = all_plans(stays, rooms)
            for who in [place for place, stay in enumerate(stays) if stay[2] is None]:
                for room in range(rooms):
                    told = may_have(stays, rooms, 2, who, room)
                    self.assertEqual(told[0] == "yes", any(plan[who] == room for plan in plans))
                    self.assertEqual(told[0] == "yes", room in rooms_for(stays, rooms, 2, who))
                    if told[0] == "yes":
                        self.assertIs(is_plan(stays, rooms, 2, told[2]), True)
                    else:
                        self.assertTrue(shuts(stays, rooms, 2, who, room, told[1]))
                        self.assertIs(is_shut(stays, rooms, 2, who, room, told[1]), True)

    def test_each_plan_is_led_to_each_other(self):
        source = random.Random(206)
        for turn in range(100):
            rooms = source.randint(1, 6)
            stays = random_stays(source, rooms, 2, 14, 20, tries=80)
            one, other = random_plan(source, stays, rooms, 2), random_plan(source, stays, rooms, 2)
            steps = led(stays, 2, one, other)
            self.assertLessEqual(len(steps), sum(stay[2] is None for stay in stays))
            here = one
            for night, room, to in steps:
                here = exchanged(stays, here, 2, night, room, to)
                self.assertIs(is_plan(stays, rooms, 2, here), True)
            self.assertEqual(here, other)


class PapersTest(unittest.TestCase):
    """Point 8."""

    def test_the_best_with_prices(self):
        source = random.Random(207)
        for turn in range(80):
            free = [source.randint(0, 2) for night in range(source.randint(1, 6))]
            wishes = random_wishes(source, free, source.randint(0, 8), 9)
            worth, choice, prices = best(wishes, free)
            self.assertTrue(prices_hold(wishes, free, choice, prices))
            self.assertIs(is_best(wishes, free, choice, prices), True)
            self.assertEqual(bound_by(wishes, free, prices), worth)
            for other in choices_of(wishes, free):
                self.assertLessEqual(sum(wishes[place][2] for place in other), worth)

    def test_places_or_lists_to_the_empty_one(self):
        source = random.Random(208)
        for turn in range(150):
            held = [source.choice([0, 0, 3]) for room in range(source.randint(1, 4))]
            groups = random_groups(source, source.randint(1, 4), 6, 3)
            word, paper = laid(held, groups)
            if word == "laid":
                self.assertTrue(are_places(held, groups, paper))
                self.assertIs(is_laid(held, groups, paper), True)
            else:
                self.assertEqual(paper[-1], [])
                self.assertTrue(leads_to_nothing(held, groups, paper))
                self.assertIs(is_none(held, groups, paper), True)
                self.assertEqual(all_places(held, groups), [])


class DeskPapersTest(unittest.TestCase):
    """Point 95: a small evening of which all can be seen by the texts."""

    def test_by_texts_alone(self):
        desk = Desk()
        told = [desk.say(row) for row in [
            "inn 2 risk 1/10", "wish ann 1 3-5", "wish bob 1 3-5", "wish cid 1 0-3", "wish dot 1 4-6 1/2", "line",
            "together ann bob", "may ann", "wanted 1", "best 1 dot 7", "wish eve 1 0-4 1/2", "names", "state eve"]]
        self.assertEqual(told[:6], ["ok", "taken", "taken", "taken", "waits", "dot 4 1 1/2"])
        self.assertEqual(told[6:9], ["laid ann 0 bob 1", "0 1", "2 at 3"])
        worth, nights_and_prices = told[9].split(", ")[0], told[9].split(", ")[1:]
        self.assertEqual(worth, "0 for")
        prices = dict(tuple(int(number) for number in part.split(" at ")) for part in nights_and_prices)
        self.assertGreaterEqual(sum(price for night, price in prices.items() if 4 <= night < 6), 7)
        # Nobody holds night 5 but dot: only night 4, on which both rooms are taken, can have a price.
        self.assertEqual(set(prices) & {4, 5}, {4})
        self.assertEqual(told[10:], ["waits", "ann bob cid dot eve", "waits 1 0-4 1/2"])


if __name__ == "__main__":
    unittest.main()
