"""Tables: at place n the chance that just n rooms are wanted."""

from nightbook.ratios import minus, ratio, total, under


def with_row(weights, many, chance):
    longer = [0] * (len(weights) + many)
    for place, weight in enumerate(weights):
        longer[place] = longer[place] + weight * (chance[1] - chance[0])
        longer[place + many] = longer[place + many] + weight * chance[0]
    return longer


def comers(rows):
    # All places have one bottom until the end: lowest terms are sought once a place, not at every step.
    weights = [1]
    bottom = 1
    for many, chance in rows:
        weights = with_row(weights, many, chance)
        bottom = bottom * chance[1]
    return [ratio(weight, bottom) for weight in weights]


def above(table, rooms):
    return total([chance for place, chance in enumerate(table) if place > rooms])


def least_rooms(table, risk):
    rooms = 0
    rest = above(table, 0)
    while under(risk, rest):
        rooms = rooms + 1
        rest = minus(rest, table[rooms])
    return rooms
