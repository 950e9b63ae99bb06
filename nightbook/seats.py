"""Seats: each stay gets a room of one kind, so that no two of a room meet.

A stay is (first, behind, room): with a room it is in the house, with None still to come.
"""

from nightbook.errors import NoStay, Taken, TooFull
from nightbook.stretches import fuller, holds, is_stretch, most_at_once, nights_of
from nightbook.wholes import is_whole


def is_stay(thing, rooms, now):
    if not isinstance(thing, tuple) or len(thing) != 3 or not is_stretch(nights_of(thing)):
        return False
    room = thing[2]
    if room is None:
        return thing[0] >= now
    return is_whole(room) and 0 <= room < rooms and holds(nights_of(thing), now)


def check_stays(stays, rooms, now):
    taken = {}
    for at, stay in enumerate(stays):
        if not is_stay(stay, rooms, now):
            raise NoStay(at)
        if stay[2] in taken:
            raise Taken(stay[2])
        if stay[2] is not None:
            taken[stay[2]] = True


def check_full(stays, rooms, now):
    night = fuller([nights_of(stay) for stay in stays], rooms, now)
    if night is not None:
        raise TooFull(night)


def still_to_come(stays):
    places = [place for place, stay in enumerate(stays) if stay[2] is None]
    return sorted(places, key=lambda place: stays[place][0])


def beginnings(stays, rooms, now):
    nights = [now] * rooms
    for stay in stays:
        if stay[2] is not None:
            nights[stay[2]] = stay[1]
    return nights


def first_free(begin, night):
    return [room for room, since in enumerate(begin) if since <= night][0]


def filled(stays, plan, begin):
    # Taken by their first nights, all that are seated began no later: whoever of them ends by that night is
    # no hindrance any more, and as long as no night is too full some room is free from it on.
    seats = list(plan)
    free_since = list(begin)
    for place in still_to_come(stays):
        if seats[place] is None:
            room = first_free(free_since, stays[place][0])
            seats[place] = room
            free_since[room] = stays[place][1]
    return seats


def seated(stays, rooms, now=0):
    check_stays(stays, rooms, now)
    check_full(stays, rooms, now)
    return filled(stays, [stay[2] for stay in stays], beginnings(stays, rooms, now))


def fewest(stretches):
    most = most_at_once(stretches)
    stays = [(stretch[0], stretch[1], None) for stretch in stretches]
    plan = filled(stays, [None] * len(stays), [0] * most[0])
    return (most[0], plan, most[1])
