"""A quarrel: sayings that no world of a size keeps together, though one keeps them wherever one of them is left out."""

from worldfind.errors import Kept
from worldfind.papers import MOST_BITS
from worldfind.search import Search
from worldfind.worlds import check_bits


def uses(paper, number):
    if paper[0] == "broken":
        return paper[1] == number
    return uses(paper[4], number) or uses(paper[5], number)


def used(paper, numbers):
    return [number for number in numbers if uses(paper, number)]


# For the theory of just these sayings, in which each bears the number of its place among them.
def renumbered(paper, numbers):
    if paper[0] == "broken":
        return ("broken", numbers.index(paper[1]))
    return paper[:4] + (renumbered(paper[4], numbers), renumbered(paper[5], numbers))


# `paper` shows that no world keeps the sayings of `numbers`.
def narrowed(search, numbers, paper):
    worlds = []
    # As many of the first ones as there are worlds can't be left out, so every paper of fewer uses them, too.
    while len(worlds) < len(numbers):
        place = len(worlds)
        sort, answer = search.told_of_sayings(numbers[:place] + numbers[place + 1:])
        if sort == "world":
            worlds.append(answer)
        else:
            paper = answer
            numbers = used(paper, numbers)
    return (numbers, renumbered(paper, numbers), worlds)


def quarrel(theory, size):
    check_bits(theory[0], size, MOST_BITS)
    search = Search(theory, size)
    numbers = list(range(len(theory[1])))
    sort, answer = search.told_of_sayings(numbers)
    if sort == "world":
        raise Kept(answer)
    return narrowed(search, used(answer, numbers), answer)
