"""What counts as a whole number, and as a tuple or a list of some."""


def is_whole(thing):
    # Python holds truths for ints; the book doesn't.
    return isinstance(thing, int) and not isinstance(thing, bool)


def is_whole_within(thing, least, most):
    return is_whole(thing) and least <= thing <= most


def all_whole(things):
    return all([is_whole(thing) for thing in things])


def is_tuple_of(thing, many):
    return isinstance(thing, tuple) and len(thing) == many and all_whole(thing)


def is_pair(thing):
    return is_tuple_of(thing, 2)


def is_whole_list(thing):
    return isinstance(thing, list) and all_whole(thing)


def is_rising(numbers):
    return all([one < other for one, other in zip(numbers, numbers[1:])])
