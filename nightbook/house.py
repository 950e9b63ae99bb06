"""A house with guests by name: who has which room and wishes which kind, and who moved."""

from nightbook.errors import Full, NoGuest, NoKind, NoName, Stands
from nightbook.ladder import admitted
from nightbook.wholes import is_whole_within

MOST_SIGNS = 8
BEST_KIND = 4


def is_name(thing):
    if not isinstance(thing, str) or not 1 <= len(thing) <= MOST_SIGNS:
        return False
    return all(["a" <= sign <= "z" for sign in thing])


class House:
    def __init__(self, rooms):
        self.rooms = list(rooms)
        # Both are by name, in the order of coming.
        self.places = {}
        self.wished = {}
        self.moves_done = []

    def let_in(self, name, kind):
        if not is_name(name):
            raise NoName(name)
        if name in self.places:
            raise Stands(name)
        if not is_whole_within(kind, 1, BEST_KIND):
            raise NoKind(kind)
        found = admitted(self.rooms, self.guests(), kind)
        if found[0] == "full":
            raise Full(found[1])
        for room, other in found[1]:
            self.move_guest(room, other)
        self.places[name] = found[2]
        self.wished[name] = kind
        return (found[2], found[1])

    def move_guest(self, room, other):
        name = [guest for guest, place in self.places.items() if place == room][0]
        self.places[name] = other
        self.moves_done.append((name, room, other))

    def check_guest(self, name):
        if not is_name(name) or name not in self.places:
            raise NoGuest(name)

    def out(self, name):
        self.check_guest(name)
        self.wished.pop(name)
        return self.places.pop(name)

    def room_of(self, name):
        self.check_guest(name)
        return self.places[name]

    def kind_of(self, name):
        self.check_guest(name)
        return self.wished[name]

    def names(self):
        return list(self.places)

    def guests(self):
        return dict([(room, self.wished[name]) for name, room in self.places.items()])

    def free(self):
        held = list(self.places.values())
        return [room for room in range(len(self.rooms)) if room not in held]

    def moved(self):
        return list(self.moves_done)
