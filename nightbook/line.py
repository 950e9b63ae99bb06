"""The line of a book: who stands in the book, what hinders those who wait, and who of them is taken."""

from nightbook.chances import tight

SURE = (1, 1)


class Entry:
    def __init__(self, name, kind, first, behind, chance):
        self.name = name
        self.kind = kind
        self.first = first
        self.behind = behind
        self.chance = chance
        self.word = "waits"


def stay_by(entry, chance):
    return (entry.first, entry.behind, entry.kind, chance)


def stays_held(entries):
    stays = []
    for entry in entries:
        if entry.word == "taken":
            stays.append(stay_by(entry, entry.chance))
        if entry.word == "house":
            stays.append(stay_by(entry, SURE))
    return stays


def hindrance(entry, entries, ladder, risk):
    return tight(stays_held(entries), stay_by(entry, entry.chance), ladder, risk)


def waiting(entries):
    return [entry for entry in entries if entry.word == "waits"]


def take_from_line(entries, ladder, risk):
    names = []
    # Who is taken leaves the others no better off: once through is enough.
    for entry in waiting(entries):
        if hindrance(entry, entries, ladder, risk) is None:
            entry.word = "taken"
            names.append(entry.name)
    return names
