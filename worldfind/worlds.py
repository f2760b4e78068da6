"""Words, and the worlds for them with their codes."""

from worldfind.errors import NoCode, NoName, NoSize, TooBig
from worldfind.wholes import is_below

GREATEST_SIZE = 4
MOST_NAMES = 4
MOST_LETTERS = 8
LETTERS = "abcdefghijklmnopqrstuvwxyz"
# Words that texts of sayings and theories use themselves.
TAKEN = (
    "some", "no", "least", "most", "each", "in", "and", "or",
    "not", "same", "all", "none", "kind", "tie", "say",
)


def is_size(thing):
    return is_below(thing, GREATEST_SIZE + 1)


def is_word(thing):
    if not isinstance(thing, str) or not 1 <= len(thing) <= MOST_LETTERS:
        return False
    return all([sign in LETTERS for sign in thing])


def is_name(thing):
    return is_word(thing) and thing not in TAKEN


def words_of(kinds, ties):
    names = list(kinds) + list(ties)
    if not all([is_name(name) for name in names]):
        raise NoName("a name is one to eight small letters and no taken word")
    if len(set(names)) < len(names):
        raise NoName("a name is told once")
    if len(kinds) > MOST_NAMES or len(ties) > MOST_NAMES:
        raise NoName("there are at most four kinds and four ties")
    return (tuple(sorted(kinds)), tuple(sorted(ties)))


# How many bits each kind and each tie has in a code, in their order there.
def widths(words, size):
    return [size] * len(words[0]) + [size * size] * len(words[1])


def bits(words, size):
    return sum(widths(words, size))


def check_size(size):
    if not is_size(size):
        raise NoSize("a size is a whole number from 0 to 4")


def check_bits(words, size, most):
    check_size(size)
    number = bits(words, size)
    if number > most:
        raise TooBig(number)


def code(words, world):
    total = 0
    place = 0
    for width, part in zip(widths(words, world[0]), world[1] + world[2]):
        total = total | (part << place)
        place = place + width
    return total


def world_of(words, size, code):
    check_size(size)
    if not is_below(code, 1 << bits(words, size)):
        raise NoCode("a code is a whole number from 0 to 2 to the bits less 1")
    parts = []
    rest = code
    for width in widths(words, size):
        parts.append(rest & ((1 << width) - 1))
        rest = rest >> width
    first_tie = len(words[0])
    return (size, tuple(parts[:first_tie]), tuple(parts[first_tie:]))
