"""Sayings held against a theory, and two theories against one another: by papers, or by a world that parts them."""

from worldfind.errors import Crowded, NoNumber, Unlike
from worldfind.papers import MOST_BITS, MOST_SAYINGS
from worldfind.search import found
from worldfind.wholes import is_below
from worldfind.worlds import check_bits


# The saying's "not" needs a place of its own among the sayings.
def check_room(theory):
    if len(theory[1]) >= MOST_SAYINGS:
        raise Crowded("a theory of twelve sayings has no room for one more")


def follows(theory, size, saying):
    words, sayings = theory
    check_bits(words, size, MOST_BITS)
    check_room(theory)
    return found((words, sayings + (("not", saying),)), size)


def matters(theory, size, number):
    words, sayings = theory
    if not is_below(number, len(sayings)):
        raise NoNumber(number)
    others = sayings[:number] + sayings[number + 1:]
    return found((words, others + (("not", sayings[number]),)), size)


def same_or_parted(one, other, most):
    if one[0] != other[0]:
        raise Unlike("theories of the same words are held against one another")
    check_bits(one[0], most, MOST_BITS)
    check_room(one)
    check_room(other)
    sides = (one, other)
    papers = []
    for size in range(most + 1):
        for side in range(2):
            for number, saying in enumerate(sides[side][1]):
                sort, answer = follows(sides[1 - side], size, saying)
                if sort == "world":
                    # It breaks a saying of this side, so it is the other side that it keeps.
                    return ("world", answer, 1 - side)
                papers.append((size, side, number, answer))
    return ("same", papers)
