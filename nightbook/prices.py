"""The best of many wishes, with prices of nights by which no choice is worth more.

Between the nights stand posts: post n ahead of night n, the last one behind all. A wish that is not chosen can be
chosen, a way from its first post to the one behind it that brings its worth; a chosen one can be given up, the same
way back, for its worth. Each night can be left empty, a way onward, and where a room is left on it, be held once
more, a way back, both for nothing. Where no round trip brings anything, no choice is worth more.
"""

from nightbook.worth import check_wishes, held_at, worth_of


def ways_of_wish(wish, place, choice):
    if place in choice:
        return (wish[1], wish[0], wish[2], place)
    return (wish[0], wish[1], -wish[2], place)


def all_ways(wishes, free, choice):
    # A way is (post, post, cost, place), place that of the wish that is chosen or given up by it, else None.
    onward = [(night, night + 1, 0, None) for night in range(len(free))]
    left = [night for night, many in enumerate(free) if held_at(wishes, choice, night) < many]
    back = [(night + 1, night, 0, None) for night in reversed(left)]
    return onward + back + [ways_of_wish(wish, place, choice) for place, wish in enumerate(wishes)]


def cheapest(costs, ways):
    # Costs as small as the ways make them, and the way by which each post has its cost. There is an end,
    # as no round trip brings anything.
    least = list(costs)
    came = [None] * len(costs)
    better = True
    while better:
        better = False
        for way in ways:
            since = least[way[0]]
            known = least[way[1]]
            if since is not None and (known is None or since + way[2] < known):
                least[way[1]] = since + way[2]
                came[way[1]] = way
                better = True
    return (least, came)


def places_on_the_way(came, start, goal):
    places = []
    post = goal
    while post != start:
        way = came[post]
        if way[3] is not None:
            places.append(way[3])
        post = way[0]
    return places


def with_one_more(wishes, free, choice, place):
    # The choice is a best one of all wishes ahead of this one. It is worth choosing where the way back from the
    # post behind it to its first one costs less than it brings; then what that way changes is changed with it.
    wish = wishes[place]
    costs = [None] * (len(free) + 1)
    costs[wish[1]] = 0
    found = cheapest(costs, all_ways(wishes[:place], free, choice))
    back = found[0][wish[0]]
    if back is None or back >= wish[2]:
        return choice
    changed = places_on_the_way(found[1], wish[1], wish[0]) + [place]
    return [one for one in range(place + 1) if (one in choice) != (one in changed)]


def prices_of(wishes, free, choice):
    costs = cheapest([0] * (len(free) + 1), all_ways(wishes, free, choice))[0]
    falls = [(night, costs[night] - costs[night + 1]) for night in range(len(free))]
    return [(night, price) for night, price in falls if price > 0]


def best(wishes, free):
    check_wishes(wishes, free)
    choice = []
    for place in range(len(wishes)):
        choice = with_one_more(wishes, free, choice, place)
    return (worth_of(wishes, choice), choice, prices_of(wishes, free, choice))
