"""What counts as a whole number, and as a tuple of two."""


def is_whole(thing):
    # Python holds truths for ints; the book doesn't.
    return isinstance(thing, int) and not isinstance(thing, bool)


def is_pair(thing):
    return isinstance(thing, tuple) and len(thing) == 2 and is_whole(thing[0]) and is_whole(thing[1])
