"""All unlike worlds of a size that keep a theory, and how many there are."""

from worldfind.errors import Broken, NoNumber
from worldfind.likeness import codes_alike, form, likenesses, renamings
from worldfind.sayings import first_broken
from worldfind.wholes import is_below
from worldfind.worlds import bits, check_bits, world_of

MOST_LISTED_BITS = 9


def all_forms(words, size):
    seen = {}
    forms = []
    for number in range(1 << bits(words, size)):
        # Codes rise, so the first world of those that are alike is their form.
        if number not in seen:
            world = world_of(words, size, number)
            forms.append(world)
            for one in codes_alike(words, world):
                seen[one] = True
    return forms


def unlike(theory, size):
    words, sayings = theory
    check_bits(words, size, MOST_LISTED_BITS)
    # Worlds that are alike keep the same sayings, so the forms alone are asked.
    return [world for world in all_forms(words, size) if first_broken(words, world, sayings) is None]


def world_at(theory, size, number):
    worlds = unlike(theory, size)
    if not is_below(number, len(worlds)):
        raise NoNumber(number)
    return worlds[number]


def number_of(theory, world):
    words, sayings = theory
    check_bits(words, world[0], MOST_LISTED_BITS)
    broken = first_broken(words, world, sayings)
    if broken is not None:
        raise Broken(broken)
    return unlike(theory, world[0]).index(form(words, world))


def how_many(theory, size):
    worlds = unlike(theory, size)
    every_renaming = len(renamings(size))
    return sum([every_renaming // len(likenesses(theory[0], world)) for world in worlds])


# `leads` tells for each place which one it leads to.
def rounds(leads):
    seen = [False] * len(leads)
    number = 0
    for start in range(len(leads)):
        if not seen[start]:
            number = number + 1
        place = start
        while not seen[place]:
            seen[place] = True
            place = leads[place]
    return number


# A kind's bits are led as things are, a tie's as pairs of things.
def rounds_of_code(words, renaming):
    pairs = []
    for first in renaming:
        pairs.extend([first * len(renaming) + second for second in renaming])
    return len(words[0]) * rounds(renaming) + len(words[1]) * rounds(pairs)


def unlike_count(words, size):
    all_renamings = renamings(size)
    total = sum([1 << rounds_of_code(words, renaming) for renaming in all_renamings])
    return total // len(all_renamings)
