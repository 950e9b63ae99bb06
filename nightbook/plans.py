"""Plans: lists with the room of each stay, in the order of the stays."""

from nightbook.seats import check_stays
from nightbook.stretches import holds, meets, nights_of
from nightbook.wholes import is_whole_list


def has_fit_room(stay, room, rooms):
    if stay[2] is not None:
        return room == stay[2]
    return 0 <= room < rooms


def is_apart(stays, plan, place):
    # Looking ahead of each place is enough: so each two stays are looked at once.
    for other in range(place):
        if plan[other] == plan[place] and meets(nights_of(stays[other]), nights_of(stays[place])):
            return False
    return True


def is_plan(stays, rooms, now, thing):
    check_stays(stays, rooms, now)
    if not is_whole_list(thing) or len(thing) != len(stays):
        return False
    for place, stay in enumerate(stays):
        if not has_fit_room(stay, thing[place], rooms) or not is_apart(stays, thing, place):
            return False
    return True


def row_of(stays, plan, room):
    places = [place for place, own in enumerate(plan) if own == room]
    return sorted(places, key=lambda place: stays[place][0])


def free_at(stays, plan, rooms, night):
    held = [room for stay, room in zip(stays, plan) if holds(nights_of(stay), night)]
    return [room for room in range(rooms) if room not in held]
