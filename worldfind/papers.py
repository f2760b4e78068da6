"""Theories, and papers of cases which show that no world of a size keeps one."""

from worldfind.bounds import told
from worldfind.errors import Crowded
from worldfind.pairsets import every, pairs_of
from worldfind.wholes import is_below, is_whole
from worldfind.worlds import check_bits, world_of

MOST_SAYINGS = 12
MOST_BITS = 16


def theory_of(words, sayings):
    if len(sayings) > MOST_SAYINGS:
        raise Crowded("a theory has at most twelve sayings")
    return (words, tuple(sayings))


# What each bit of a code stands for, from the lowest on: a name and two things, for a kind the same one twice.
def places_of(words, size):
    places = []
    for name in words[0]:
        places.extend([(name, a, a) for a in range(size)])
    for name in words[1]:
        places.extend([(name, a, b) for a, b in pairs_of(size, every(size))])
    return places


# A paper may be a thing of any kind, so nothing is asked of it before its kind is known.
def is_tuple_of(thing, word, length):
    if not isinstance(thing, tuple) or len(thing) != length:
        return False
    return isinstance(thing[0], str) and thing[0] == word


# A case is a part-known world, told by the codes of its two worlds: `low` has what is known, `high` what may be.
class Cases:
    def __init__(self, theory, size):
        self.words = theory[0]
        self.sayings = theory[1]
        self.size = size
        self.places = places_of(theory[0], size)
        self.whole = (1 << len(self.places)) - 1

    def world_of_code(self, code):
        return world_of(self.words, self.size, code)

    def truth(self, number, low, high):
        part = (self.world_of_code(low), self.world_of_code(high))
        return told(self.words, part, self.sayings[number])

    # 0 where there is no such bit.
    def bit_of(self, name, a, b):
        # A truth and a whole number may be equal, so the places alone don't tell them apart.
        if not isinstance(name, str) or not is_whole(a) or not is_whole(b):
            return 0
        if (name, a, b) not in self.places:
            return 0
        return 1 << self.places.index((name, a, b))

    def is_shown(self, paper, low, high):
        if is_tuple_of(paper, "broken", 2):
            number = paper[1]
            return is_below(number, len(self.sayings)) and self.truth(number, low, high) is False
        if not is_tuple_of(paper, "split", 6):
            return False
        bit = self.bit_of(paper[1], paper[2], paper[3])
        if bit & high & ~low == 0:
            return False
        return self.is_shown(paper[4], low | bit, high) and self.is_shown(paper[5], low, high & ~bit)


def holds(theory, size, paper):
    check_bits(theory[0], size, MOST_BITS)
    cases = Cases(theory, size)
    return cases.is_shown(paper, 0, cases.whole)
