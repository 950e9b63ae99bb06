"""How many rooms side by side some groups need, and who is where on a night."""

from nightbook.sides import laid
from nightbook.stretches import holds, nights_of

MOST_WIDE = 6


def least_wide(groups):
    if len(groups) == 0:
        return ("wide", 0, [], [])
    lists = []
    for wide in range(1, MOST_WIDE + 1):
        told = laid([0] * wide, groups)
        if told[0] == "laid":
            return ("wide", wide, told[1], lists)
        lists = told[1]
    return ("none", lists)


def row_at(wide, groups, places, night):
    row = [None] * wide
    for place, group in enumerate(groups):
        if holds(nights_of(group), night):
            for room in range(places[place], places[place] + group[2]):
                row[room] = place
    return row
