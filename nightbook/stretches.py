"""Stretches of nights: tuples (first, behind), the night behind not among them."""

from nightbook.wholes import is_pair

NIGHTS = 400


def is_stretch(thing):
    return is_pair(thing) and 0 <= thing[0] < thing[1] <= NIGHTS


def nights_of(stay):
    # Stays, wishes and groups begin with their nights, whatever else they hold behind.
    return (stay[0], stay[1])


def holds(stretch, night):
    return stretch[0] <= night < stretch[1]


def shared(one, other):
    first = max(one[0], other[0])
    behind = min(one[1], other[1])
    if first >= behind:
        return None
    return (first, behind)


def meets(one, other):
    return shared(one, other) is not None


def count_at(stretches, night):
    return len([stretch for stretch in stretches if holds(stretch, night)])


def firsts(stretches):
    return [stretch[0] for stretch in stretches]


def most_at_once(stretches):
    most = 0
    night = 0
    # A count rises only where a stretch begins, so the least night of the greatest count is a first.
    for first in sorted(firsts(stretches)):
        count = count_at(stretches, first)
        if count > most:
            most = count
            night = first
    return (most, night)


def changes(stretches):
    edges = firsts(stretches) + [stretch[1] for stretch in stretches]
    # Where as many end as begin the count stays, and neighbours in counts would be alike.
    return sorted(set([edge for edge in edges if count_at(stretches, edge - 1) != count_at(stretches, edge)]))


def counts(stretches):
    edges = changes(stretches)
    return [(first, behind, count_at(stretches, first)) for first, behind in zip(edges, edges[1:])]


def fuller(stretches, many, since=0):
    later = [first for first in firsts(stretches) if first > since]
    # Behind since a count rises only where a stretch begins: no other night can be the least one.
    for night in [since] + sorted(later):
        if count_at(stretches, night) > many:
            return night
    return None
