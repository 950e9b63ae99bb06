"""A witness of a book: it keeps by itself, by the document's words alone, who stands where, and tells what must be told.

Each deed tells ("told", answer), or the refusal's name and value; what a book is free in (rooms and moves of who comes)
is looked at and taken over from its answer.
"""

from fractions import Fraction

from tests.papers import falls_by_words, has_free, levels_of, moved, moves_there_are

KNOWN = {}


def pair(number):
    return (number.numerator, number.denominator)


def chance_of_more(chances, rooms):
    """That more than rooms come, each by its own chance."""
    key = (tuple(sorted(chances)), rooms)
    if key not in KNOWN:
        table = [Fraction(1)]
        for chance in key[0]:
            here = Fraction(*chance)
            table = [a * (1 - here) + b * here for a, b in zip(table + [Fraction(0)], [Fraction(0)] + table)]
        KNOWN[key] = sum(table[rooms + 1:], Fraction(0))
    return KNOWN[key]


def is_int(thing):
    return type(thing) is int


def is_name(thing):
    return type(thing) is str and 1 <= len(thing) <= 8 and set(thing) <= set("abcdefghijklmnopqrstuvwxyz")


def is_stretch(first, behind):
    return is_int(first) and is_int(behind) and 0 <= first < behind <= 400


def is_chance(thing):
    if type(thing) is not tuple or len(thing) != 2 or not is_int(thing[0]) or not is_int(thing[1]):
        return False
    return 1 <= thing[1] <= 100 and 0 <= thing[0] <= thing[1] and pair(Fraction(*thing)) == thing


class Witness:
    def __init__(self, case, ladder, risk):
        self.case, self.ladder, self.risk = case, list(ladder), Fraction(*risk)
        self.kinds = [kind + 1 for kind, many in enumerate(ladder) for room in range(many)]
        self.people, self.rooms, self.now, self.told = {}, {}, 0, []

    # What hinders a wish.

    def why(self, kind, first, behind, chance):
        beside = [one for one in self.people.values() if one["word"] != "waits"]
        for night in range(first, behind):
            for level in range(1, kind + 1):
                here = [one for one in beside if one["first"] <= night < one["behind"] and one["kind"] >= level]
                chances = [(1, 1) if one["word"] == "house" else one["chance"] for one in here] + [chance]
                found = chance_of_more(chances, sum(self.ladder[level - 1:]))
                if found > self.risk:
                    return (night, level, pair(found))
        return None

    def why_waits(self, name):
        one = self.people[name]
        return self.why(one["kind"], one["first"], one["behind"], one["chance"])

    def note(self, word, name):
        self.told.append((self.now, word, name))

    def out(self, word, names):
        for name in names:
            del self.people[name]
            self.rooms.pop(name, None)
            self.note(word, name)

    def from_the_line(self):
        names = []
        for name, one in self.people.items():
            if one["word"] == "waits" and self.why_waits(name) is None:
                one["word"] = "taken"
                names.append(name)
                self.note("taken", name)
        return names

    def stands(self, name):
        return type(name) is str and name in self.people

    # Deeds.

    def wish(self, name, kind, first, behind, chance=None):
        chance = (1, 1) if chance is None else chance
        if not is_name(name):
            return ("NoName", name)
        if name in self.people:
            return ("Stands", name)
        if not is_int(kind) or not 1 <= kind <= len(self.ladder):
            return ("NoKind", kind)
        if not is_stretch(first, behind) or first < self.now:
            return ("NoStretch", name)
        if not is_chance(chance):
            return ("NoChance", name)
        if len(self.people) == 16:
            return ("TooMany", 17)
        word = "taken" if self.why(kind, first, behind, chance) is None else "waits"
        self.people[name] = {"word": word, "kind": kind, "first": first, "behind": behind, "chance": chance}
        self.note(word, name)
        return ("told", word == "taken")

    def withdraw(self, name):
        if not self.stands(name):
            return ("NoGuest", name)
        if self.people[name]["word"] == "house":
            return ("InHouse", name)
        self.out("withdrawn", [name])
        return ("told", self.from_the_line())

    def shorten(self, name, first, behind):
        if not self.stands(name):
            return ("NoGuest", name)
        one = self.people[name]
        if not is_stretch(first, behind) or first < one["first"] or behind > one["behind"] or behind <= self.now:
            return ("NoStretch", name)
        if one["word"] == "house" and first != one["first"]:
            return ("NoStretch", name)
        one["first"], one["behind"] = first, behind
        self.note("shorter", name)
        return ("told", self.from_the_line())

    def due(self, name):
        if not self.stands(name):
            return ("NoGuest", name)
        one = self.people[name]
        if one["word"] == "house":
            return ("InHouse", name)
        if one["word"] == "waits" or one["first"] != self.now:
            return ("NotTonight", name)
        return None

    def guests(self):
        return {room: self.people[name]["kind"] for name, room in self.rooms.items()}

    def could_all_be_seated(self, kind):
        wished = list(self.guests().values()) + [kind]
        return all(sum(one >= level for one in wished) <= sum(self.ladder[level - 1:]) for level in range(1, kind + 1))

    def come(self, name, answer):
        if self.due(name):
            return self.due(name)
        kind, guests = self.people[name]["kind"], self.guests()
        if not self.could_all_be_seated(kind):
            self.out("away", [name])
            return ("told", ("away", max(levels_of(self.kinds, guests, kind)), self.from_the_line()))
        self.case.assertEqual((answer[0], answer[1][0]), ("told", "in"))
        word, room, moves = answer[1]
        self.case.assertEqual(len(moves), len(falls_by_words(self.kinds, guests, kind)) - 1)
        for move in moves:
            self.case.assertIn(move, moves_there_are(self.kinds, guests))
            guests = moved(guests, move)
            who = [one for one in self.rooms if self.rooms[one] == move[0]][0]
            self.rooms[who] = move[1]
            self.note("moved", who)
        self.case.assertTrue(is_int(room) and room not in guests and has_free(self.kinds, guests, kind))
        self.case.assertGreaterEqual(self.kinds[room], kind)
        self.rooms[name] = room
        self.people[name]["word"] = "house"
        self.note("in", name)
        return ("told", ("in", room, list(moves)))

    def absent(self, name):
        if self.due(name):
            return self.due(name)
        self.out("absent", [name])
        return ("told", self.from_the_line())

    def go(self, name):
        if not self.stands(name):
            return ("NoGuest", name)
        if self.people[name]["word"] != "house":
            return ("NotTonight", name)
        self.out("gone", [name])
        return ("told", self.from_the_line())

    def close(self):
        if self.now == 399:
            return ("TooMany", 400)
        absent = [name for name, one in self.people.items() if one["word"] == "taken" and one["first"] == self.now]
        self.out("absent", absent)
        self.now += 1
        left = [name for name, one in self.people.items() if one["word"] == "house" and one["behind"] == self.now]
        self.out("left", left)
        late = [name for name, one in self.people.items() if one["word"] == "waits" and one["first"] < self.now]
        self.out("late", late)
        return ("told", (absent, left, late, self.from_the_line()))

    # Asks.

    def names(self):
        return list(self.people)

    def state(self, name):
        one = self.people[name]
        return (one["word"], one["kind"], one["first"], one["behind"], one["chance"])

    def house(self):
        return list(self.rooms.items())

    def line(self):
        return [(name,) + self.why_waits(name) for name, one in self.people.items() if one["word"] == "waits"]


def look_at(case, book, witness):
    """All that a book tells, beside what its witness holds."""
    case.assertEqual(book.tonight(), witness.now)
    case.assertEqual(book.names(), witness.names())
    case.assertEqual(book.house(), witness.house())
    case.assertEqual(book.line(), witness.line())
    case.assertEqual(book.story(), witness.told)
    for name in witness.names():
        case.assertEqual(book.state(name), witness.state(name))
    for name, room in witness.house():
        case.assertEqual(book.room_of(name), room)


NAMES = ["ann", "bob", "cid", "dot", "eve", "fay", "gus", "hal", "ida", "jon", "kim", "lea", "max", "ned", "oda", "pia",
         "qui", "ron", "sue", "tom"]


def random_chance(source):
    bottom = source.choice([1, 1, 2, 3, 4, 10, 100])
    return pair(Fraction(source.randint(0, bottom), bottom))


def random_nights(source, now):
    """Nights that mostly make a stretch from now on, at times some that don't."""
    if source.random() < 0.06:
        return (source.randint(-1, now + 3), source.randint(-1, now + 3))
    first = now + source.choice([0, 0, 0, 1, 2, 5])
    behind = first + source.choice([1, 2, 3, 6, source.randint(1, 30)])
    return (first, behind) if source.random() < 0.9 else (first, min(behind, 400))


def random_deed(source, witness):
    """A deed's name and what is handed in: mostly such as can be done, at times others."""
    now, people = witness.now, witness.people
    some = source.choice(NAMES)
    deed = source.choice(["wish"] * 5 + ["come"] * 4 + ["withdraw", "shorten", "absent", "go", "close"])
    if deed == "wish":
        free = [name for name in NAMES if name not in people]
        name = source.choice(free) if source.random() < 0.95 else some
        kind = source.randint(1, len(witness.ladder)) if source.random() < 0.97 else source.choice([0, 5])
        chance = source.choice([None, random_chance(source), random_chance(source)])
        things = (name, kind) + random_nights(source, now)
        return (deed, things if chance is None else things + (chance,))
    if deed == "close":
        return (deed, ())
    fit = {"come": lambda one: one["word"] == "taken" and one["first"] == now, "go": lambda one: one["word"] == "house",
           "absent": lambda one: one["word"] == "taken" and one["first"] == now,
           "withdraw": lambda one: one["word"] != "house", "shorten": lambda one: True}[deed]
    found = [name for name in people if fit(people[name])]
    if not found and source.random() < 0.9:
        return random_deed(source, witness)
    name = source.choice(found) if found and source.random() < 0.93 else some
    if deed != "shorten":
        return (deed, (name,))
    if name not in people or source.random() < 0.2:
        return (deed, (name,) + random_nights(source, now))
    one = people[name]
    first = one["first"] if one["word"] == "house" else source.randint(one["first"], one["behind"] - 1)
    return (deed, (name, first, source.randint(first + 1, one["behind"])))


def done_by(witness, deed, things, answer):
    """What the witness says of a deed, by its own book and, where a book is free, by the answer."""
    return witness.come(things[0], answer) if deed == "come" else getattr(witness, deed)(*things)
