"""The value of an expression in a world, and whether a world keeps a saying."""

from worldfind.pairsets import closed, common, either, every, gathered, joined, pairs_of, same, turned, without


def value_of_name(words, world, name):
    if name in words[1]:
        return world[2][words[1].index(name)]
    size = world[0]
    kind = world[1][words[0].index(name)]
    return gathered(size, [(a, a) for a in range(size) if (kind >> a) & 1])


# Apart from `value`, since the bounds of an expression are made by the same steps.
def made(size, sort, ties):
    if sort == "same":
        return same(size)
    if sort == "all":
        return every(size)
    if sort == "none":
        return 0
    if sort == "plus":
        return either(ties[0], ties[1])
    if sort == "less":
        return without(ties[0], ties[1])
    if sort == "both":
        return common(ties[0], ties[1])
    if sort == "joined":
        return joined(size, ties[0], ties[1])
    if sort == "turned":
        return turned(size, ties[0])
    return closed(size, ties[0])


def value(words, world, expression):
    if expression[0] == "name":
        return value_of_name(words, world, expression[1])
    ties = [value(words, world, inner) for inner in expression[1:]]
    return made(world[0], expression[0], ties)


# All the numbers that the K of such a saying is held against: one, or one for each thing.
def counts(size, sort, tie):
    pairs = pairs_of(size, tie)
    if sort in ("least", "most"):
        return [len(pairs)]
    firsts = [a for a, b in pairs]
    return [firsts.count(thing) for thing in range(size)]


def keeps_count(words, world, saying):
    limit = saying[1]
    numbers = counts(world[0], saying[0], value(words, world, saying[2]))
    if saying[0] in ("least", "eachleast"):
        return all([number >= limit for number in numbers])
    return all([number <= limit for number in numbers])


def keeps(words, world, saying):
    sort = saying[0]
    if sort == "not":
        return not keeps(words, world, saying[1])
    if sort == "and":
        return keeps(words, world, saying[1]) and keeps(words, world, saying[2])
    if sort == "or":
        return keeps(words, world, saying[1]) or keeps(words, world, saying[2])
    if sort == "in":
        return without(value(words, world, saying[1]), value(words, world, saying[2])) == 0
    if sort == "equal":
        return value(words, world, saying[1]) == value(words, world, saying[2])
    if sort == "some":
        return value(words, world, saying[1]) != 0
    if sort == "no":
        return value(words, world, saying[1]) == 0
    return keeps_count(words, world, saying)


# None where it keeps them all.
def first_broken(words, world, sayings):
    for number, saying in enumerate(sayings):
        if not keeps(words, world, saying):
            return number
    return None
