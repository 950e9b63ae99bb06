"""The book of an inn: who waits, is taken or is in the house, evening by evening."""

from nightbook.chances import is_ladder
from nightbook.errors import (
    Full, InHouse, NoBook, NoChance, NoGuest, NoKind, NoName, NoStretch, NotTonight, Stands, TooMany,
)
from nightbook.house import House, is_name
from nightbook.line import SURE, Entry, hindrance, take_from_line, waiting
from nightbook.ratios import is_chance
from nightbook.stretches import NIGHTS, is_stretch
from nightbook.wholes import is_whole_within

MOST_IN_THE_BOOK = 16
MOST_BOTTOM_OF_A_RISK = 1000000000
MOST_BOTTOM_OF_A_CHANCE = 100


def is_chance_to(thing, most):
    return is_chance(thing) and thing[1] <= most


def kinds_of_rooms(ladder):
    kinds = []
    for place, many in enumerate(ladder):
        kinds = kinds + [place + 1] * many
    return kinds


class Book:
    def __init__(self, ladder, risk):
        if not is_ladder(ladder) or not is_chance_to(risk, MOST_BOTTOM_OF_A_RISK):
            raise NoBook("a book is made of a ladder and a risk from 0 to 1")
        self.ladder = list(ladder)
        self.risk = risk
        # The book reads these alone, so that whatever befalls the list above changes nothing.
        self.steps = tuple(ladder)
        self.inside = House(kinds_of_rooms(ladder))
        self.night = 0
        # By name, in the order of coming to the book.
        self.entries = {}
        self.happened = []

    def wish(self, name, kind, first, behind, chance=None):
        held = SURE if chance is None else chance
        self.check_wish(name, kind, first, behind, held)
        entry = Entry(name, kind, first, behind, held)
        if self.hindrance_of(entry) is None:
            entry.word = "taken"
        self.entries[name] = entry
        self.note(entry.word, name)
        return entry.word == "taken"

    def check_wish(self, name, kind, first, behind, chance):
        if not is_name(name):
            raise NoName(name)
        if name in self.entries:
            raise Stands(name)
        if not is_whole_within(kind, 1, len(self.steps)):
            raise NoKind(kind)
        if not is_stretch((first, behind)) or first < self.night:
            raise NoStretch(name)
        if not is_chance_to(chance, MOST_BOTTOM_OF_A_CHANCE):
            raise NoChance(name)
        if len(self.entries) >= MOST_IN_THE_BOOK:
            raise TooMany(MOST_IN_THE_BOOK + 1)

    def withdraw(self, name):
        entry = self.entry_of(name)
        if entry.word == "house":
            raise InHouse(name)
        self.dismiss("withdrawn", [name])
        return self.go_through_line()

    def shorten(self, name, first, behind):
        entry = self.entry_of(name)
        if not self.can_be_shortened(entry, first, behind):
            raise NoStretch(name)
        entry.first = first
        entry.behind = behind
        self.note("shorter", name)
        return self.go_through_line()

    def can_be_shortened(self, entry, first, behind):
        if not is_stretch((first, behind)) or first < entry.first or behind > entry.behind:
            return False
        return behind > self.night and (entry.word != "house" or first == entry.first)

    def come(self, name):
        entry = self.due_tonight(name)
        many = len(self.inside.moved())
        try:
            found = self.inside.let_in(name, entry.kind)
        except Full as full:
            self.dismiss("away", [name])
            return ("away", full.kind, self.go_through_line())
        for step in self.inside.moved()[many:]:
            self.note("moved", step[0])
        entry.word = "house"
        self.note("in", name)
        return ("in", found[0], found[1])

    def absent(self, name):
        self.due_tonight(name)
        self.dismiss("absent", [name])
        return self.go_through_line()

    def go(self, name):
        if self.entry_of(name).word != "house":
            raise NotTonight(name)
        self.dismiss("gone", [name])
        return self.go_through_line()

    def close(self):
        if self.night + 1 >= NIGHTS:
            raise TooMany(NIGHTS)
        absent = [entry.name for entry in self.all_of("taken") if entry.first == self.night]
        self.dismiss("absent", absent)
        self.night = self.night + 1
        left = [entry.name for entry in self.all_of("house") if entry.behind == self.night]
        self.dismiss("left", left)
        late = [entry.name for entry in self.all_of("waits") if entry.first < self.night]
        self.dismiss("late", late)
        return (absent, left, late, self.go_through_line())

    def tonight(self):
        return self.night

    def names(self):
        return list(self.entries)

    def state(self, name):
        entry = self.entry_of(name)
        return (entry.word, entry.kind, entry.first, entry.behind, entry.chance)

    def room_of(self, name):
        return self.inside.room_of(name)

    def house(self):
        return [(name, self.inside.room_of(name)) for name in self.inside.names()]

    def line(self):
        rows = []
        for entry in waiting(self.all_entries()):
            told = self.hindrance_of(entry)
            rows.append((entry.name, told[0], told[1], told[2]))
        return rows

    def story(self):
        return list(self.happened)

    def note(self, word, name):
        self.happened.append((self.night, word, name))

    def all_entries(self):
        return list(self.entries.values())

    def all_of(self, word):
        return [entry for entry in self.all_entries() if entry.word == word]

    def entry_of(self, name):
        if not is_name(name) or name not in self.entries:
            raise NoGuest(name)
        return self.entries[name]

    def due_tonight(self, name):
        entry = self.entry_of(name)
        if entry.word == "house":
            raise InHouse(name)
        if entry.word == "waits" or entry.first != self.night:
            raise NotTonight(name)
        return entry

    def dismiss(self, word, names):
        for name in names:
            if self.entries[name].word == "house":
                self.inside.out(name)
            self.entries.pop(name)
            self.note(word, name)

    def hindrance_of(self, entry):
        return hindrance(entry, self.all_entries(), self.steps, self.risk)

    def go_through_line(self):
        names = take_from_line(self.all_entries(), self.steps, self.risk)
        for name in names:
            self.note("taken", name)
        return names
