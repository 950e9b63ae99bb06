"""Exchanges: from a night on, two rooms have each other's stays; so each plan is led to each other one."""

from nightbook.errors import NoExchange
from nightbook.seats import still_to_come


def hinders(stay, night):
    return (stay[2] is not None or stay[0] < night) and stay[1] > night


def check_exchange(stays, plan, now, night, one, other):
    if night < now or one == other:
        raise NoExchange(night)
    for stay, room in zip(stays, plan):
        if (room == one or room == other) and hinders(stay, night):
            raise NoExchange(night)


def room_behind(stay, room, night, one, other):
    if stay[0] < night:
        return room
    if room == one:
        return other
    if room == other:
        return one
    return room


def exchanged(stays, plan, now, night, one, other):
    check_exchange(stays, plan, now, night, one, other)
    return [room_behind(stay, room, night, one, other) for stay, room in zip(stays, plan)]


def led(stays, now, plan, other):
    steps = []
    here = list(plan)
    # By their first nights: who was looked at has its room of the other plan already, so whoever is in the room
    # that the next one goes to is gone by that one's first night, and no step undoes one ahead of it.
    for place in still_to_come(stays):
        if here[place] != other[place]:
            step = (stays[place][0], here[place], other[place])
            here = exchanged(stays, here, now, step[0], step[1], step[2])
            steps.append(step)
    return steps
