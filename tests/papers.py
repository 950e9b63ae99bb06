"""What is told with a paper, looked at by the document's own words and not by the program."""

from itertools import product


def nights(stay):
    return set(range(stay[0], stay[1]))


def is_int(thing):
    return type(thing) is int


def is_a_plan(stays, rooms, plan):
    if type(plan) is not list or len(plan) != len(stays) or not all(is_int(room) for room in plan):
        return False
    for stay, room in zip(stays, plan):
        if stay[2] is not None and room != stay[2] or not 0 <= room < rooms:
            return False
    for place, stay in enumerate(stays):
        for other in range(place):
            if plan[other] == plan[place] and nights(stays[other]) & nights(stay):
                return False
    return True


def all_plans(stays, rooms):
    choices = [range(rooms) if stay[2] is None else [stay[2]] for stay in stays]
    return [list(plan) for plan in product(*choices) if is_a_plan(stays, rooms, list(plan))]


def beginning(stays, now, room):
    return ([stay[1] for stay in stays if stay[2] == room] + [now])[0]


def shuts(stays, rooms, now, who, room, listed):
    begin, first = beginning(stays, now, room), stays[who][0]
    if begin > first:
        return type(listed) is list and len(listed) == 0
    if type(listed) is not list or not all(is_int(night) for night in listed):
        return False
    if listed != sorted(set(listed)) or begin not in listed or first in listed:
        return False
    if not all(begin <= night <= first for night in listed):
        return False
    for night in listed:
        holders = [stay for stay in stays if night in nights(stay)]
        if len(holders) != rooms and night + 1 not in listed:
            return False
        for place, stay in enumerate(stays):
            if place != who and stay[2] is None and stay[0] == night and stay[1] <= first and stay[1] not in listed:
                return False
    return True


def random_stays(source, rooms, now, many, last, tries=40):
    """Stays for which nothing is refused: in the house and still to come."""
    stays, held = [], {}
    for turn in range(tries):
        if len(stays) == many:
            break
        if rooms and source.random() < 0.3:
            room = source.randrange(rooms)
            first = source.randint(max(0, now - 4), now)
            stay = (first, source.randint(now + 1, max(now + 1, min(400, last))), room)
            if any(other[2] == room for other in stays):
                continue
        else:
            first = source.randint(now, max(now, min(399, last - 1)))
            stay = (first, source.randint(first + 1, max(first + 1, min(400, last))), None)
        if all(held.get(night, 0) < rooms for night in nights(stay) if night >= now):
            stays.append(stay)
            for night in nights(stay):
                held[night] = held.get(night, 0) + 1
    source.shuffle(stays)
    return stays
