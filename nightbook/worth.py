"""What wishes are worth: choices of those that fit, prices of nights, and what no choice can be worth more than.

A wish is (first, behind, worth); prices are a list of tuples (night, price), by rising nights.
"""

from nightbook.errors import NoWish
from nightbook.stretches import count_at, holds, nights_of
from nightbook.wholes import is_pair, is_rising, is_whole_list

MOST_WORTH = 1000000000


def is_wish_for(wish, free):
    return 0 <= wish[0] < wish[1] <= len(free) and 0 <= wish[2] <= MOST_WORTH


def check_wishes(wishes, free):
    for at, wish in enumerate(wishes):
        if not is_wish_for(wish, free):
            raise NoWish(at)


def cost(prices, first, behind):
    return sum([price for night, price in prices if first <= night < behind])


def worth_of(wishes, choice):
    return sum([wishes[place][2] for place in choice])


def held_at(wishes, choice, night):
    return count_at([nights_of(wishes[place]) for place in choice], night)


def fits(wishes, free, choice):
    return all([held_at(wishes, choice, night) <= many for night, many in enumerate(free)])


def is_place_list(wishes, thing):
    return is_whole_list(thing) and is_rising(thing) and all([0 <= place < len(wishes) for place in thing])


def is_choice(wishes, free, thing):
    check_wishes(wishes, free)
    return is_place_list(wishes, thing) and fits(wishes, free, thing)


def is_price(free, thing):
    return is_pair(thing) and 0 <= thing[0] < len(free) and thing[1] >= 1


def is_price_list(free, thing):
    if not isinstance(thing, list) or not all([is_price(free, price) for price in thing]):
        return False
    return is_rising([night for night, price in thing])


def gain(wish, prices):
    return wish[2] - cost(prices, wish[0], wish[1])


def sold_out(wishes, free, choice, prices):
    return all([held_at(wishes, choice, night) == free[night] for night, price in prices])


def is_best(wishes, free, choice, prices):
    if not is_choice(wishes, free, choice) or not is_price_list(free, prices):
        return False
    for place, wish in enumerate(wishes):
        if place in choice and gain(wish, prices) < 0:
            return False
        if place not in choice and gain(wish, prices) > 0:
            return False
    return sold_out(wishes, free, choice, prices)


def bound_by(wishes, free, prices):
    check_wishes(wishes, free)
    rooms = sum([free[night] * price for night, price in prices])
    return rooms + sum([max(0, gain(wish, prices)) for wish in wishes])


def has_room(wishes, free, choice, wish):
    left = [many - held_at(wishes, choice, night) for night, many in enumerate(free) if holds(nights_of(wish), night)]
    return min(left) > 0


def by_turns(wishes, free):
    check_wishes(wishes, free)
    choice = []
    for place, wish in enumerate(wishes):
        if has_room(wishes, free, choice, wish):
            choice.append(place)
    return choice
