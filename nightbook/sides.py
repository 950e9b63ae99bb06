"""Groups side by side: places of groups in a row of rooms, or all rows of rooms that there could be, to an empty list.

held is a list with the night from which on each room is free; a group is (first, behind, many).
"""

from nightbook.errors import NoWish, TooMany
from nightbook.stretches import is_stretch, meets, nights_of
from nightbook.wholes import is_tuple_of, is_whole_list, is_whole_within

MOST_OF_A_GROUP = 6
MOST_ROWS = 400


def is_group(thing):
    if not isinstance(thing, tuple) or len(thing) != 3:
        return False
    return is_stretch(nights_of(thing)) and is_whole_within(thing[2], 1, MOST_OF_A_GROUP)


def check_groups(groups):
    for at, group in enumerate(groups):
        if not is_group(group):
            raise NoWish(at)


def turns(groups):
    return sorted(range(len(groups)), key=lambda place: groups[place][0])


def starts_in(row, group):
    last = len(row) - group[2]
    return [start for start in range(last + 1) if max(row[start:start + group[2]]) <= group[0]]


def night_behind(since, group, is_own):
    if is_own:
        return group[1]
    # All groups to come begin no earlier: since when a room is free that is free now makes no difference.
    return 0 if since <= group[0] else since


def row_behind(row, group, start):
    behind = start + group[2]
    return tuple([night_behind(since, group, start <= room < behind) for room, since in enumerate(row)])


def rows_behind(rows, group):
    # Each row that comes of one of the rows, with (the row ahead, the group's first room).
    found = {}
    for row in rows:
        for start in starts_in(row, group):
            found.setdefault(row_behind(row, group, start), (row, start))
    return found


def all_behind(held, groups):
    # What rows_behind finds for each group in turn, up to the first that finds nothing.
    found = []
    rows = [tuple(held)]
    for place in turns(groups):
        behind = rows_behind(rows, groups[place])
        found.append(behind)
        if len(behind) > MOST_ROWS:
            raise TooMany(len(found))
        if len(behind) == 0:
            return found
        rows = sorted(behind)
    return found


def places_by(found, groups):
    places = [None] * len(groups)
    row = None
    for place, behind in reversed(list(zip(turns(groups), found))):
        if row is None:
            row = sorted(behind)[0]
        places[place] = behind[row][1]
        row = behind[row][0]
    return places


def laid_as_they_are(held, groups):
    found = all_behind(held, groups)
    if len(found) > 0 and len(found[-1]) == 0:
        return ("none", [sorted(behind) for behind in found])
    return ("laid", places_by(found, groups))


def laid(held, groups):
    check_groups(groups)
    return laid_as_they_are(held, groups)


def has_rooms(held, group, start):
    if not 0 <= start <= len(held) - group[2]:
        return False
    return max(held[start:start + group[2]]) <= group[0]


def have_a_room_in_common(one, start, other, other_start):
    return max(start, other_start) < min(start + one[2], other_start + other[2])


def is_beside(groups, places, place):
    # Looking ahead of each place is enough: so each two groups are looked at once.
    for other in range(place):
        if meets(nights_of(groups[place]), nights_of(groups[other])):
            if have_a_room_in_common(groups[place], places[place], groups[other], places[other]):
                return False
    return True


def is_laid(held, groups, thing):
    check_groups(groups)
    if not is_whole_list(thing) or len(thing) != len(groups):
        return False
    for place, group in enumerate(groups):
        if not has_rooms(held, group, thing[place]) or not is_beside(groups, thing, place):
            return False
    return True


def is_row_list(thing, many):
    return isinstance(thing, list) and all([is_tuple_of(row, many) for row in thing])


def has_all(rows, needed):
    known = dict([(row, True) for row in rows])
    return all([row in known for row in needed])


def is_none(held, groups, thing):
    check_groups(groups)
    if not isinstance(thing, list) or not 1 <= len(thing) <= len(groups):
        return False
    if not all([is_row_list(rows, len(held)) for rows in thing]) or len(thing[-1]) > 0:
        return False
    ahead = [tuple(held)]
    for place, rows in zip(turns(groups), thing):
        if not has_all(rows, rows_behind(ahead, groups[place])):
            return False
        ahead = rows
    return True
