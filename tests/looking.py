"""What looks at a book must tell, by the document's words and by the book's witness alone."""

from tests.papers import in_turn, lists_by_words, nights, prices_hold, rows_that_come
from tests.witness import is_int


def rooms_of(witness, kind):
    """The numbers in the house of the rooms of a kind, rising."""
    return [room for room, own in enumerate(witness.kinds) if own == kind]


def taken_for(witness, kind):
    return [name for name, one in witness.people.items() if one["word"] == "taken" and one["kind"] == kind]


def seats(witness, kind):
    if not is_int(kind) or not 1 <= kind <= len(witness.ladder):
        return ("NoKind", kind)
    rooms, people = rooms_of(witness, kind), witness.people
    guests = [name for name in witness.rooms if witness.rooms[name] in rooms]
    stays = [(people[name]["first"], people[name]["behind"], rooms.index(witness.rooms[name])) for name in guests]
    coming = taken_for(witness, kind)
    stays += [(people[name]["first"], people[name]["behind"], None) for name in coming]
    return ("told", (guests + coming, stays, len(rooms)))


def can_have(stays, rooms, now, who, room):
    """Whether there is a plan in which who has the room, by going through all ways to seat one behind the other."""
    since = [now] * rooms
    for first, behind, own in stays:
        if own is not None:
            since[own] = behind
    states = {(since[room], tuple(sorted(since[:room] + since[room + 1:])))}
    coming = [place for place, stay in enumerate(stays) if stay[2] is None]
    for place in sorted(coming, key=lambda place: stays[place][0]):
        first, behind, own = stays[place]
        found = set()
        for here, others in states:
            if here <= first:
                found.add((behind, others))
            if place != who:
                for at, other in enumerate(others):
                    if other <= first:
                        found.add((here, tuple(sorted(others[:at] + (behind,) + others[at + 1:]))))
        states = {(here, tuple(0 if other <= first else other for other in others)) for here, others in found}
        # Who is to have the room has it by no other way.
        if place == who:
            states = {(here, others) for here, others in states if here == behind}
    return bool(states)


def may(witness, name):
    if name not in witness.people:
        return ("NoGuest", name)
    one = witness.people[name]
    if one["word"] != "taken":
        return ("NotTaken", name)
    names, stays, rooms = seats(witness, one["kind"])[1]
    for night in range(witness.now, 400):
        if sum(night in nights(stay) for stay in stays) > rooms:
            return ("TooFull", night)
    own = rooms_of(witness, one["kind"])
    who = names.index(name)
    return ("told", [own[room] for room in range(rooms) if can_have(stays, rooms, witness.now, who, room)])


def most_wanted(witness, kind):
    told = seats(witness, kind)
    if told[0] != "told":
        return told
    counts = [sum(night in nights(stay) for stay in told[1][1]) for night in range(witness.now, 400)]
    return ("told", (max(counts), witness.now + counts.index(max(counts))))


def look_at_best(case, witness, kind, pairs, told):
    """Looks at what best_of_line told, its paper too."""
    found = seats(witness, kind)
    if found[0] != "told":
        case.assertEqual(told, found)
        return
    named = []
    for at, (name, worth) in enumerate(pairs):
        one = witness.people.get(name)
        if one is None or one["word"] != "waits" or one["kind"] != kind or name in named:
            case.assertEqual(told, ("NoGuest", name))
            return
        if not is_int(worth) or not 0 <= worth <= 10 ** 9:
            case.assertEqual(told, ("NoWish", at))
            return
        named.append(name)
    names, stays, rooms = found[1]
    now = witness.now
    listed = range(now, min(now + 60, 400))
    free = [max(0, rooms - sum(night in nights(stay) for stay in stays)) for night in listed]
    near = [(name, worth) for name, worth in pairs if witness.people[name]["behind"] <= now + 60]
    wishes = [(witness.people[name]["first"] - now, witness.people[name]["behind"] - now, worth) for name, worth in near]
    case.assertEqual(told[0], "told")
    worth, chosen, prices = told[1]
    places = [place for place, (name, own) in enumerate(near) if name in chosen]
    case.assertEqual(chosen, [near[place][0] for place in places])
    case.assertEqual(worth, sum(near[place][1] for place in places))
    case.assertTrue(prices_hold(wishes, free, places, [(night - now, price) for night, price in prices]))


def has_places_from(held, groups, start):
    """Whether there are places in which the first group of the list has that first room."""
    rows = [tuple(held)]
    for place in in_turn(groups):
        found = []
        for row in rows:
            for made in rows_that_come([row], groups[place]):
                own = range(start, start + groups[0][2])
                if place != 0 or all(row[room] <= groups[0][0] and made[room] == groups[0][1] for room in own):
                    found.append(made)
        rows = sorted(set(found))
    return bool(rows)


def refused_together(witness, names):
    people = witness.people
    for place, name in enumerate(names):
        if name not in people:
            return ("NoGuest", name)
        if people[name]["word"] != "taken":
            return ("NotTaken", name)
        if name in names[:place]:
            return ("Stands", name)
    for name in names:
        if people[name]["kind"] != people[names[0]]["kind"]:
            return ("NoKind", people[name]["kind"])
    for name in names:
        if people[name]["first"] != people[names[0]]["first"]:
            return ("NoStretch", name)
    many = witness.ladder[people[names[0]]["kind"] - 1]
    return None if 1 <= many <= 6 else ("TooMany", many)


def look_at_together(case, witness, names, told):
    """Looks at what together told, its paper too; tells how it was."""
    refused = refused_together(witness, names)
    if refused:
        case.assertEqual(told, refused)
        return refused[0]
    people, kind = witness.people, witness.people[names[0]]["kind"]
    own = rooms_of(witness, kind)
    held = [0] * len(own)
    for name, room in witness.rooms.items():
        if room in own:
            held[own.index(room)] = people[name]["behind"]
    others = [name for name in taken_for(witness, kind) if name not in names]
    groups = [(people[names[0]]["first"], max(people[name]["behind"] for name in names), len(names))]
    groups += [(people[name]["first"], people[name]["behind"], 1) for name in others]
    lists, too_many = lists_by_words(held, groups)
    if too_many is not None:
        case.assertEqual(told, ("TooMany", too_many))
        return "TooMany"
    if not lists[-1]:
        case.assertEqual(told, ("told", ("none", lists)))
        return "none"
    case.assertEqual((told[0], told[1][0]), ("told", "laid"))
    found = told[1][1]
    case.assertEqual([name for name, room in found], names)
    first = found[0][1]
    case.assertEqual([room for name, room in found], list(range(first, first + len(names))))
    case.assertTrue(set(room for name, room in found) <= set(own))
    case.assertTrue(has_places_from(held, groups, own.index(first)))
    return "laid"
