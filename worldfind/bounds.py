"""Part-known worlds: the bounds of an expression, and whether a saying is settled already."""

from worldfind.pairsets import without
from worldfind.sayings import counts, made, value_of_name


def bounds(words, part, expression):
    sort = expression[0]
    if sort == "name":
        name = expression[1]
        return (value_of_name(words, part[0], name), value_of_name(words, part[1], name))
    inner_bounds = [bounds(words, part, inner) for inner in expression[1:]]
    musts = [must for must, may in inner_bounds]
    mays = [may for must, may in inner_bounds]
    if sort == "less":
        # The more pairs the second one has, the fewer are left.
        return (without(musts[0], mays[1]), without(mays[0], musts[1]))
    size = part[0][0]
    return (made(size, sort, musts), made(size, sort, mays))


def settled(is_true, is_false):
    if is_true:
        return True
    if is_false:
        return False
    return None


def not_told(truth):
    return settled(truth is False, truth is True)


def and_told(one, other):
    return settled(one is True and other is True, one is False or other is False)


def or_told(one, other):
    return settled(one is True or other is True, one is False and other is False)


def in_told(first, second):
    return settled(without(first[1], second[0]) == 0, without(first[0], second[1]) != 0)


def count_told(size, sort, limit, tie_bounds):
    musts = counts(size, sort, tie_bounds[0])
    mays = counts(size, sort, tie_bounds[1])
    if sort in ("least", "eachleast"):
        return settled(all([must >= limit for must in musts]), any([may < limit for may in mays]))
    return settled(all([may <= limit for may in mays]), any([must > limit for must in musts]))


def told(words, part, saying):
    sort = saying[0]
    if sort == "not":
        return not_told(told(words, part, saying[1]))
    if sort == "and":
        return and_told(told(words, part, saying[1]), told(words, part, saying[2]))
    if sort == "or":
        return or_told(told(words, part, saying[1]), told(words, part, saying[2]))
    return fact_told(words, part, saying)


def fact_told(words, part, fact):
    sort = fact[0]
    size = part[0][0]
    last = bounds(words, part, fact[-1])
    if sort == "some":
        return count_told(size, "least", 1, last)
    if sort == "no":
        return count_told(size, "most", 0, last)
    if sort == "in":
        return in_told(bounds(words, part, fact[1]), last)
    if sort == "equal":
        first = bounds(words, part, fact[1])
        return and_told(in_told(first, last), in_told(last, first))
    return count_told(size, sort, fact[1], last)
