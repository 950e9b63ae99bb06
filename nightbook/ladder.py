"""A house of kinds: how somebody more is let in by the fewest moves, or at which kind the house is full.

rooms is a list with the kind of each room; guests is a dict from rooms to the kinds that the guests there wish.
"""

from nightbook.wholes import is_pair, is_whole, is_whole_list


def is_free(rooms, guests, room):
    return 0 <= room < len(rooms) and room not in guests


def free_from(rooms, guests, kind):
    return [room for room, own in enumerate(rooms) if own >= kind and room not in guests]


def least_wished(rooms, guests, kind):
    # Where no guest is in such a room nobody can make room there by leaving it: kind itself is no fall.
    return min([guests[room] for room in guests if rooms[room] >= kind], default=kind)


def falls_of(rooms, guests, kind):
    # None where the falls end without a free room.
    falls = [kind]
    while free_from(rooms, guests, falls[-1]) == []:
        least = least_wished(rooms, guests, falls[-1])
        if least >= falls[-1]:
            return None
        falls.append(least)
    return falls


def guest_to_move(rooms, guests, kind, wished):
    return [room for room in sorted(guests) if rooms[room] >= kind and guests[room] == wished][0]


def moves_by(rooms, guests, falls):
    # From the free room on upward: each guest goes into the room that was left free ahead of it.
    goal = free_from(rooms, guests, falls[-1])[0]
    moves = []
    for kind, wished in reversed(list(zip(falls, falls[1:]))):
        room = guest_to_move(rooms, guests, kind, wished)
        moves.append((room, goal))
        goal = room
    return (moves, goal)


def is_level(rooms, guests, level):
    return all([guests.get(room, 0) >= level for room, own in enumerate(rooms) if own >= level])


def admitted(rooms, guests, kind):
    falls = falls_of(rooms, guests, kind)
    if falls is None:
        return ("full", max([level for level in range(1, kind + 1) if is_level(rooms, guests, level)]))
    found = moves_by(rooms, guests, falls)
    return ("in", found[0], found[1], falls)


def can_move(rooms, guests, move):
    if not is_pair(move) or move[0] not in guests or not is_free(rooms, guests, move[1]):
        return False
    return rooms[move[1]] >= guests[move[0]]


def guests_behind(rooms, guests, moves):
    # None where one of the moves can't be done.
    here = dict(guests)
    for move in moves:
        if not can_move(rooms, here, move):
            return None
        here[move[1]] = here.pop(move[0])
    return here


def is_fewest(rooms, guests, kind, moves, falls):
    if not isinstance(moves, list) or not is_whole_list(falls) or len(falls) != len(moves) + 1:
        return False
    if falls != falls_of(rooms, guests, kind):
        return False
    here = guests_behind(rooms, guests, moves)
    return here is not None and free_from(rooms, here, kind) != []


def is_full(rooms, guests, kind, thing):
    return is_whole(thing) and 1 <= thing <= kind and is_level(rooms, guests, thing)


def movable(rooms, guests):
    moves = []
    for room in sorted(guests):
        moves.extend([(room, other) for other in free_from(rooms, guests, guests[room])])
    return moves
