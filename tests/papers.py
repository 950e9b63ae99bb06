"""What is told with a paper, looked at by the document's own words and not by the program."""

from itertools import product

from nightbook.errors import InnError


def refusal(call, *things):
    """("told", what is told), or the name of the refusal and its value."""
    try:
        told = call(*things)
    except InnError as error:
        return (type(error).__name__, list(vars(error).values())[0])
    return ("told", told)


def nights(stay):
    return set(range(stay[0], stay[1]))


def is_int(thing):
    return type(thing) is int


def is_a_plan(stays, rooms, plan):
    if type(plan) is not list or len(plan) != len(stays) or not all(is_int(room) for room in plan):
        return False
    for stay, room in zip(stays, plan):
        if stay[2] is not None and room != stay[2] or not 0 <= room < rooms:
            return False
    for place, stay in enumerate(stays):
        for other in range(place):
            if plan[other] == plan[place] and nights(stays[other]) & nights(stay):
                return False
    return True


def all_plans(stays, rooms):
    choices = [range(rooms) if stay[2] is None else [stay[2]] for stay in stays]
    return [list(plan) for plan in product(*choices) if is_a_plan(stays, rooms, list(plan))]


def beginning(stays, now, room):
    return ([stay[1] for stay in stays if stay[2] == room] + [now])[0]


def shuts(stays, rooms, now, who, room, listed):
    begin, first = beginning(stays, now, room), stays[who][0]
    if begin > first:
        return type(listed) is list and len(listed) == 0
    if type(listed) is not list or not all(is_int(night) for night in listed):
        return False
    if listed != sorted(set(listed)) or begin not in listed or first in listed:
        return False
    if not all(begin <= night <= first for night in listed):
        return False
    for night in listed:
        holders = [stay for stay in stays if night in nights(stay)]
        if len(holders) != rooms and night + 1 not in listed:
            return False
        for place, stay in enumerate(stays):
            if place != who and stay[2] is None and stay[0] == night and stay[1] <= first and stay[1] not in listed:
                return False
    return True


def random_stays(source, rooms, now, many, last, tries=40):
    """Stays for which nothing is refused: in the house and still to come."""
    stays, held = [], {}
    for turn in range(tries):
        if len(stays) == many:
            break
        if rooms and source.random() < 0.3:
            room = source.randrange(rooms)
            first = source.randint(max(0, now - 4), now)
            stay = (first, source.randint(now + 1, max(now + 1, min(400, last))), room)
            if any(other[2] == room for other in stays):
                continue
        else:
            first = source.randint(now, max(now, min(399, last - 1)))
            stay = (first, source.randint(first + 1, max(first + 1, min(400, last))), None)
        if all(held.get(night, 0) < rooms for night in nights(stay) if night >= now):
            stays.append(stay)
            for night in nights(stay):
                held[night] = held.get(night, 0) + 1
    source.shuffle(stays)
    return stays


def random_plan(source, stays, rooms, now):
    """Some plan of stays for which nothing is refused: each one still to come gets any room that is free then."""
    plan = [stay[2] for stay in stays]
    since = [beginning(stays, now, room) for room in range(rooms)]
    coming = [place for place, stay in enumerate(stays) if stay[2] is None]
    for place in sorted(coming, key=lambda place: stays[place][0]):
        room = source.choice([room for room in range(rooms) if since[room] <= stays[place][0]])
        plan[place] = room
        since[room] = stays[place][1]
    return plan


def is_a_choice(wishes, free, choice):
    if type(choice) is not list or not all(is_int(place) and 0 <= place < len(wishes) for place in choice):
        return False
    held = [sum(night in nights(wishes[place]) for place in choice) for night in range(len(free))]
    return choice == sorted(set(choice)) and all(one <= many for one, many in zip(held, free))


def are_prices(free, prices):
    if type(prices) is not list:
        return False
    for one in prices:
        if type(one) is not tuple or len(one) != 2 or not is_int(one[0]) or not is_int(one[1]):
            return False
    listed = [night for night, price in prices]
    within = all(0 <= night < len(free) and price >= 1 for night, price in prices)
    return within and listed == sorted(set(listed))


def prices_hold(wishes, free, choice, prices):
    """All that is promised of a choice and its prices."""
    if not is_a_choice(wishes, free, choice) or not are_prices(free, prices):
        return False
    by_night = dict(prices)
    for night in by_night:
        if sum(night in nights(wishes[place]) for place in choice) != free[night]:
            return False
    for place, wish in enumerate(wishes):
        paid = sum(by_night.get(night, 0) for night in nights(wish))
        if wish[2] < paid if place in choice else wish[2] > paid:
            return False
    return True


def choices_of(wishes, free):
    """All choices, by going through all lists of places."""
    places = range(len(wishes))
    lists = [[place for place in places if bits >> place & 1] for bits in range(2 ** len(wishes))]
    return [choice for choice in lists if is_a_choice(wishes, free, choice)]


def moves_there_are(rooms, guests):
    return [(room, other) for room in sorted(guests) for other in range(len(rooms))
            if other not in guests and rooms[other] >= guests[room]]


def moved(guests, move):
    here = dict(guests)
    here[move[1]] = here.pop(move[0])
    return here


def has_free(rooms, guests, kind):
    return any(own >= kind and room not in guests for room, own in enumerate(rooms))


def fewest_moves(rooms, guests, kind):
    """How few moves let somebody in, by going through all rows of moves; None where none do."""
    states, seen, many = [guests], {tuple(sorted(guests.items()))}, 0
    while states:
        if any(has_free(rooms, here, kind) for here in states):
            return many
        found = [moved(here, move) for here in states for move in moves_there_are(rooms, here)]
        states = []
        for here in found:
            key = tuple(sorted(here.items()))
            if key not in seen:
                seen.add(key)
                states.append(here)
        many += 1
    return None


def falls_by_words(rooms, guests, kind):
    """The list of falling kinds, None where there is none."""
    falls = [kind]
    while not has_free(rooms, guests, falls[-1]):
        wished = [guests[room] for room in guests if rooms[room] >= falls[-1]]
        if not wished or min(wished) >= falls[-1]:
            return None
        falls.append(min(wished))
    return falls


def is_a_level(rooms, guests, level):
    return all(room in guests and guests[room] >= level for room, own in enumerate(rooms) if own >= level)


def levels_of(rooms, guests, kind):
    return [level for level in range(1, kind + 1) if is_a_level(rooms, guests, level)]


def rooms_of_group(group, start):
    return set(range(start, start + group[2]))


def are_places(held, groups, places):
    if type(places) is not list or len(places) != len(groups) or not all(is_int(start) for start in places):
        return False
    for group, start in zip(groups, places):
        own = rooms_of_group(group, start)
        if not own <= set(range(len(held))) or any(held[room] > group[0] for room in own):
            return False
    for place, group in enumerate(groups):
        for other in range(place):
            common = rooms_of_group(group, places[place]) & rooms_of_group(groups[other], places[other])
            if common and nights(group) & nights(groups[other]):
                return False
    return True


def all_places(held, groups):
    """All places of the groups, by going through all lists of first rooms."""
    return [list(starts) for starts in product(range(len(held)), repeat=len(groups))
            if are_places(held, groups, list(starts))]


def in_turn(groups):
    return sorted(range(len(groups)), key=lambda place: (groups[place][0], place))


def rows_that_come(rows, group):
    """The list behind a group, by the words: each row once, sorted."""
    first, behind, many = group
    found = set()
    for row in rows:
        for start in range(len(row)):
            own = list(range(start, start + many))
            if own[-1] < len(row) and all(row[room] <= first for room in own):
                made = [0 if night <= first else night for night in row]
                for room in own:
                    made[room] = behind
                found.add(tuple(made))
    return sorted(found)


def lists_by_words(held, groups):
    """The lists behind the groups up to the first empty one, each whole; and how many groups made more than 400 rows."""
    lists, rows = [], [tuple(held)]
    for number, place in enumerate(in_turn(groups), start=1):
        rows = rows_that_come(rows, groups[place])
        lists.append(rows)
        if len(rows) > 400:
            return lists, number
        if not rows:
            break
    return lists, None


def leads_to_nothing(held, groups, lists):
    if type(lists) is not list or not 1 <= len(lists) <= len(groups):
        return False
    for rows in lists:
        if type(rows) is not list:
            return False
        for row in rows:
            if type(row) is not tuple or len(row) != len(held) or not all(is_int(night) for night in row):
                return False
    ahead = [tuple(held)]
    for place, rows in zip(in_turn(groups), lists):
        if not set(rows_that_come(ahead, groups[place])) <= set(rows):
            return False
        ahead = rows
    return lists[-1] == []
