"""Exact numbers: a ratio is a tuple (top, bottom) in lowest terms, bottom from 1 on."""

from nightbook.errors import NoNumber
from nightbook.wholes import is_pair, is_whole


def greatest_divisor(one, other):
    while other != 0:
        rest = one % other
        one = other
        other = rest
    return one


def lowest(top, bottom):
    divisor = greatest_divisor(abs(top), abs(bottom))
    # Dividing by a number below 0 brings the sign of the bottom up to the top.
    if bottom < 0:
        divisor = -divisor
    return (top // divisor, bottom // divisor)


def ratio(top, bottom=1):
    if not is_whole(top) or not is_whole(bottom):
        raise NoNumber("a ratio is made of two whole numbers")
    if bottom == 0:
        raise NoNumber("the bottom of a ratio is not 0")
    return lowest(top, bottom)


def is_ratio(thing):
    return is_pair(thing) and thing[1] >= 1 and greatest_divisor(abs(thing[0]), thing[1]) == 1


def is_chance(thing):
    return is_ratio(thing) and 0 <= thing[0] <= thing[1]


def plus(one, other):
    # What still divides the sum's top and bottom divides what both bottoms have in common. So it is
    # sought among numbers no longer than the shorter bottom, which keeps long sums quick.
    both = greatest_divisor(one[1], other[1])
    top = one[0] * (other[1] // both) + other[0] * (one[1] // both)
    divisor = greatest_divisor(abs(top), both)
    return (top // divisor, (one[1] // both) * (other[1] // divisor))


def minus(one, other):
    return plus(one, (-other[0], other[1]))


def times(one, other):
    return lowest(one[0] * other[0], one[1] * other[1])


def under(one, other):
    return one[0] * other[1] < other[0] * one[1]


def total(ratios):
    result = (0, 1)
    for one in ratios:
        result = plus(result, one)
    return result
