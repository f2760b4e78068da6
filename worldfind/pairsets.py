"""Ties as whole numbers: bit a * size + b is set where a is tied to b."""

from worldfind.errors import NoPair
from worldfind.wholes import is_below


def pairs_of(size, tie):
    # Bits rise as pairs do, so the list comes out sorted.
    return [divmod(place, size) for place in range(size * size) if (tie >> place) & 1]


# Of pairs that the program made itself: a search asks for so many that it shows whether they are checked.
def gathered(size, pairs):
    tie = 0
    for a, b in pairs:
        tie = tie | (1 << (a * size + b))
    return tie


def tie_of(size, pairs):
    for a, b in pairs:
        if not is_below(a, size) or not is_below(b, size):
            raise NoPair("a pair is of two things of the size")
    return gathered(size, pairs)


def common(one, other):
    return one & other


def either(one, other):
    return one | other


def without(one, other):
    return one & ~other


def turned(size, tie):
    return gathered(size, [(b, a) for a, b in pairs_of(size, tie)])


def joined(size, one, other):
    row = (1 << size) - 1
    tie = 0
    for a, b in pairs_of(size, one):
        from_b = (other >> (b * size)) & row
        tie = tie | (from_b << (a * size))
    return tie


def closed(size, tie):
    reached = tie
    longer = either(reached, joined(size, reached, reached))
    while longer != reached:
        reached = longer
        longer = either(reached, joined(size, reached, reached))
    return reached


def same(size):
    return gathered(size, [(a, a) for a in range(size)])


def every(size):
    return (1 << (size * size)) - 1
