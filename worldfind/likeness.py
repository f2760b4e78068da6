"""Renamings of things, and worlds that are alike but for the names of their things."""

from worldfind.errors import NoRenaming
from worldfind.pairsets import gathered, pairs_of
from worldfind.wholes import is_below
from worldfind.worlds import check_size, code, world_of


def longer_by_one(rows, size):
    longer = []
    for row in rows:
        longer.extend([row + (thing,) for thing in range(size) if thing not in row])
    return longer


def renamings(size):
    check_size(size)
    rows = [()]
    # Each row is followed by its longer ones in order, so the list stays sorted.
    for place in range(size):
        rows = longer_by_one(rows, size)
    return rows


def then(one, other):
    return tuple([other[thing] for thing in one])


def back(renaming):
    return tuple([renaming.index(thing) for thing in range(len(renaming))])


def is_renaming(thing, size):
    if not isinstance(thing, tuple) or len(thing) != size:
        return False
    return all([is_below(one, size) for one in thing]) and len(set(thing)) == size


def renamed_kind(kind, renaming):
    answer = 0
    for a, thing in enumerate(renaming):
        if (kind >> a) & 1:
            answer = answer | (1 << thing)
    return answer


def renamed_tie(tie, renaming):
    size = len(renaming)
    return gathered(size, [(renaming[a], renaming[b]) for a, b in pairs_of(size, tie)])


def renamed(words, world, renaming):
    size, kinds, ties = world
    if not is_renaming(renaming, size):
        raise NoRenaming("a renaming is a tuple of all things of the size, each once")
    new_kinds = tuple([renamed_kind(kind, renaming) for kind in kinds])
    new_ties = tuple([renamed_tie(tie, renaming) for tie in ties])
    return (size, new_kinds, new_ties)


# The codes of all worlds alike to it, perhaps told more than once.
def codes_alike(words, world):
    return [code(words, renamed(words, world, renaming)) for renaming in renamings(world[0])]


def form(words, world):
    return world_of(words, world[0], min(codes_alike(words, world)))


def alike(words, one, other):
    for renaming in renamings(one[0]):
        if renamed(words, one, renaming) == other:
            return renaming
    return None


def likenesses(words, world):
    return [renaming for renaming in renamings(world[0]) if renamed(words, world, renaming) == world]
