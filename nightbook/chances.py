"""Chances of kinds: that more come who wish a kind or a better one than there are such rooms.

A ladder is a list with the number of rooms of each kind, first of the plainest. A stay is a tuple
(first, behind, kind, chance).
"""

from nightbook.ratios import ratio, under
from nightbook.stretches import holds, nights_of
from nightbook.tables import comers_above, with_row
from nightbook.wholes import is_whole_list

MOST_ALIKE = 60
MOST_KINDS = 4
MOST_ROOMS = 12


def most_alike(chance, rooms, risk):
    weights = [1]
    bottom = 1
    for many in range(MOST_ALIKE):
        weights = with_row(weights, 1, chance)
        bottom = bottom * chance[1]
        # By one row more above is no less, so the first number that is too great ends the search.
        if under(risk, ratio(sum(weights[rooms + 1:]), bottom)):
            return many
    return MOST_ALIKE


def is_ladder(thing):
    if not is_whole_list(thing) or not 1 <= len(thing) <= MOST_KINDS:
        return False
    return min(thing) >= 0 and sum(thing) <= MOST_ROOMS


def rooms_from(ladder, kind):
    return sum(ladder[kind - 1:])


def chance_at(stays, night, kind, ladder):
    rows = [(1, stay[3]) for stay in stays if stay[2] >= kind and holds(nights_of(stay), night)]
    return comers_above(rows, rooms_from(ladder, kind))


def nights_to_look_at(stays, new):
    # The chance grows only where a stay begins: no other night of the new one can be the first that is too much.
    later = [stay[0] for stay in stays if new[0] < stay[0] < new[1]]
    return [new[0]] + sorted(later)


def tight(stays, new, ladder, risk):
    everybody = stays + [new]
    for night in nights_to_look_at(stays, new):
        for kind in range(1, new[2] + 1):
            chance = chance_at(everybody, night, kind, ladder)
            if under(risk, chance):
                return (night, kind, chance)
    return None
