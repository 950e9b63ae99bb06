"""Reach: which rooms a stay that is still to come may have, told by a plan or by nights from which nothing leads on."""

from nightbook.errors import NoRoom, NoStay
from nightbook.seats import beginnings, check_full, check_stays, filled
from nightbook.stretches import count_at, nights_of
from nightbook.wholes import is_rising, is_whole_list


def check_who(stays, rooms, now, who):
    check_stays(stays, rooms, now)
    check_full(stays, rooms, now)
    if not 0 <= who < len(stays) or stays[who][2] is not None:
        raise NoStay(who)


def check_room(rooms, room):
    if not 0 <= room < rooms:
        raise NoRoom(room)


def is_tight(stays, rooms, night):
    return count_at([nights_of(stay) for stay in stays], night) == rooms


def goes_ahead(stays, who, place, night):
    stay = stays[place]
    return place != who and stay[2] is None and stay[0] == night and stay[1] <= stays[who][0]


def steps_from(stays, rooms, who, night):
    # A step is (night, place): the night on which the room is free again, and who had it till then, None for nobody.
    steps = [(stay[1], place) for place, stay in enumerate(stays) if goes_ahead(stays, who, place, night)]
    if not is_tight(stays, rooms, night):
        steps.append((night + 1, None))
    return steps


def nights_reached(stays, rooms, who, begin):
    # Each night that is reached has the step that leads to it, as (the night ahead, place); the beginning has None.
    reached = {begin: None}
    for night in range(begin, stays[who][0]):
        if night in reached:
            for step in steps_from(stays, rooms, who, night):
                reached.setdefault(step[0], (night, step[1]))
    return reached


def chain_to(reached, last):
    chain = []
    night = last
    while reached[night] is not None:
        place = reached[night][1]
        if place is not None:
            chain.insert(0, place)
        night = reached[night][0]
    return chain


def plan_with(stays, rooms, now, who, room, chain):
    plan = [stay[2] for stay in stays]
    for place in chain + [who]:
        plan[place] = room
    # Whoever else comes into this room comes behind who: so the chain is all that is ahead.
    begin = beginnings(stays, rooms, now)
    begin[room] = stays[who][1]
    return filled(stays, plan, begin)


def may_have(stays, rooms, now, who, room):
    check_who(stays, rooms, now, who)
    check_room(rooms, room)
    begin = beginnings(stays, rooms, now)[room]
    first = stays[who][0]
    if begin > first:
        return ("no", [])
    reached = nights_reached(stays, rooms, who, begin)
    if first not in reached:
        return ("no", sorted(reached))
    chain = chain_to(reached, first)
    return ("yes", chain, plan_with(stays, rooms, now, who, room, chain))


def is_closed(stays, rooms, who, nights):
    for night in nights:
        for step in steps_from(stays, rooms, who, night):
            if step[0] not in nights:
                return False
    return True


def is_shut(stays, rooms, now, who, room, thing):
    check_who(stays, rooms, now, who)
    check_room(rooms, room)
    if not is_whole_list(thing) or not is_rising(thing):
        return False
    begin = beginnings(stays, rooms, now)[room]
    first = stays[who][0]
    if begin > first:
        return thing == []
    if begin not in thing or min(thing) < begin or max(thing) >= first:
        return False
    return is_closed(stays, rooms, who, thing)


def rooms_for(stays, rooms, now, who):
    check_who(stays, rooms, now, who)
    return [room for room in range(rooms) if may_have(stays, rooms, now, who, room)[0] == "yes"]
