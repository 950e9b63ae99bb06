"""Tables: at place n the chance that just n rooms are wanted."""

from nightbook.ratios import minus, ratio, total, under


def with_row(weights, many, chance):
    longer = [0] * (len(weights) + many)
    for place, weight in enumerate(weights):
        longer[place] = longer[place] + weight * (chance[1] - chance[0])
        longer[place + many] = longer[place + many] + weight * chance[0]
    return longer


def all_weights(rows):
    weights = [1]
    for many, chance in rows:
        weights = with_row(weights, many, chance)
    return weights


def common_bottom(rows):
    bottom = 1
    for many, chance in rows:
        bottom = bottom * chance[1]
    return bottom


def comers(rows):
    # All places have one bottom until the end: lowest terms are sought once a place, not at every step.
    bottom = common_bottom(rows)
    return [ratio(weight, bottom) for weight in all_weights(rows)]


def above(table, rooms):
    return total([chance for place, chance in enumerate(table) if place > rooms])


def comers_above(rows, rooms):
    # What above tells of comers, for rooms from 0 on, with lowest terms sought once in all.
    return ratio(sum(all_weights(rows)[rooms + 1:]), common_bottom(rows))


def least_rooms(table, risk):
    rooms = 0
    rest = above(table, 0)
    while under(risk, rest):
        rooms = rooms + 1
        rest = minus(rest, table[rooms])
    return rooms
