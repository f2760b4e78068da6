"""What counts as a whole number, for all that is told by one: things, sizes, codes."""


def is_whole(thing):
    # Python holds True and False for ints.
    return isinstance(thing, int) and not isinstance(thing, bool)


def is_below(thing, end):
    return is_whole(thing) and 0 <= thing < end
