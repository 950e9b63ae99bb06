"""Looks at a book as it is: who may have which room of a kind, the best of its line, groups side by side."""

from nightbook.errors import NoGuest, NoKind, NoStretch, NotTaken, NoWish, Stands, TooMany
from nightbook.prices import best
from nightbook.reach import rooms_for
from nightbook.sides import laid_as_they_are
from nightbook.stretches import NIGHTS, count_at, most_at_once, nights_of
from nightbook.wholes import is_whole_within
from nightbook.worth import MOST_WORTH

NIGHTS_AHEAD = 60
MOST_SIDE_BY_SIDE = 6


def check_kind(book, kind):
    if not is_whole_within(kind, 1, len(book.steps)):
        raise NoKind(kind)


def rooms_of_kind(book, kind):
    return book.steps[kind - 1]


def first_room(book, kind):
    return sum(book.steps[:kind - 1])


def guests_in(book, kind):
    first = first_room(book, kind)
    behind = first + rooms_of_kind(book, kind)
    return [(name, room - first) for name, room in book.house() if first <= room < behind]


def taken_for(book, kind):
    return [entry.name for entry in book.all_of("taken") if entry.kind == kind]


def nights_in_book(book, name):
    state = book.state(name)
    return (state[2], state[3])


def stay_in_book(book, name, room):
    nights = nights_in_book(book, name)
    return (nights[0], nights[1], room)


def seats_of(book, kind):
    check_kind(book, kind)
    seats = guests_in(book, kind) + [(name, None) for name in taken_for(book, kind)]
    names = [name for name, room in seats]
    stays = [stay_in_book(book, name, room) for name, room in seats]
    return (names, stays, rooms_of_kind(book, kind))


def check_taken(book, name):
    if book.state(name)[0] != "taken":
        raise NotTaken(name)


def may_still(book, name):
    check_taken(book, name)
    kind = book.state(name)[1]
    seats = seats_of(book, kind)
    rooms = rooms_for(seats[1], seats[2], book.tonight(), seats[0].index(name))
    return [first_room(book, kind) + room for room in rooms]


def wanted(book, kind):
    tonight = book.tonight()
    stays = seats_of(book, kind)[1]
    if len(stays) == 0:
        return (0, tonight)
    # All of them hold tonight or begin later: nights ahead of tonight are left off, no stay is.
    return most_at_once([(max(tonight, stay[0]), stay[1]) for stay in stays])


def waits_for(book, name, kind):
    state = book.state(name)
    return state[0] == "waits" and state[1] == kind


def check_pairs(book, kind, pairs):
    named = []
    for at, pair in enumerate(pairs):
        if pair[0] in named or not waits_for(book, pair[0], kind):
            raise NoGuest(pair[0])
        if not is_whole_within(pair[1], 0, MOST_WORTH):
            raise NoWish(at)
        named.append(pair[0])


def free_ahead(book, kind):
    seats = seats_of(book, kind)
    stretches = [nights_of(stay) for stay in seats[1]]
    tonight = book.tonight()
    behind = min(tonight + NIGHTS_AHEAD, NIGHTS)
    return [max(0, seats[2] - count_at(stretches, night)) for night in range(tonight, behind)]


def wish_ahead(book, name, worth):
    nights = nights_in_book(book, name)
    return (nights[0] - book.tonight(), nights[1] - book.tonight(), worth)


def best_of_line(book, kind, pairs):
    check_kind(book, kind)
    check_pairs(book, kind, pairs)
    free = free_ahead(book, kind)
    tonight = book.tonight()
    near = [(name, worth) for name, worth in pairs if nights_in_book(book, name)[1] <= tonight + len(free)]
    told = best([wish_ahead(book, name, worth) for name, worth in near], free)
    names = [near[place][0] for place in told[1]]
    return (told[0], names, [(tonight + night, price) for night, price in told[2]])


def check_each(book, names):
    for place, name in enumerate(names):
        check_taken(book, name)
        if name in names[:place]:
            raise Stands(name)


def check_alike(book, names):
    first = book.state(names[0])
    for name in names:
        if book.state(name)[1] != first[1]:
            raise NoKind(book.state(name)[1])
    for name in names:
        if book.state(name)[2] != first[2]:
            raise NoStretch(name)


def check_side_by_side(book, kind):
    many = rooms_of_kind(book, kind)
    if not 1 <= many <= MOST_SIDE_BY_SIDE:
        raise TooMany(many)


def held_rooms(book, kind):
    held = [0] * rooms_of_kind(book, kind)
    for name, room in guests_in(book, kind):
        held[room] = nights_in_book(book, name)[1]
    return held


def groups_with(book, kind, names):
    last = max([nights_in_book(book, name)[1] for name in names])
    others = [name for name in taken_for(book, kind) if name not in names]
    alone = [stay_in_book(book, name, 1) for name in others]
    return [(nights_in_book(book, names[0])[0], last, len(names))] + alone


def together(book, names):
    check_each(book, names)
    if len(names) == 0:
        return ("laid", [])
    check_alike(book, names)
    kind = book.state(names[0])[1]
    check_side_by_side(book, kind)
    told = laid_as_they_are(held_rooms(book, kind), groups_with(book, kind, names))
    if told[0] == "none":
        return told
    first = first_room(book, kind) + told[1][0]
    return ("laid", [(name, first + place) for place, name in enumerate(names)])
