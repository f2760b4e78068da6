"""The desk: it keeps theories by words, is told rows and answers each by a text."""

from worldfind.errors import Kept, NoRow, NoStand, NoWorld
from worldfind.following import matters, same_or_parted
from worldfind.likeness import form
from worldfind.listing import how_many, unlike
from worldfind.quarrels import quarrel
from worldfind.sayings import first_broken
from worldfind.search import found, smallest
from worldfind.theories import EMPTY, shown_theory, with_row
from worldfind.wholes import is_written
from worldfind.worlds import code, is_word, world_of

# What stands behind each first word.
SHAPES = {
    "begin": ("theory",), "tell": ("theory", "row"), "drop": ("theory",), "show": ("theory",),
    "find": ("theory", "size"), "least": ("theory", "size"), "count": ("theory", "size"),
    "form": ("theory", "size", "code"), "keeps": ("theory", "size", "code"),
    "matters": ("theory", "size", "number"), "quarrel": ("theory", "size"), "same": ("theory", "theory", "size"),
}
MOST_FIGURES = {"size": 1, "number": 2, "code": 5}


def fits(sort, word):
    if sort == "theory":
        return is_word(word)
    if sort == "row":
        return True
    return is_written(word, MOST_FIGURES[sort])


def split_row(row):
    if row.startswith("tell "):
        # The row that is told may have blanks of its own.
        return row.split(" ", 2)
    return row.split(" ")


def parts_of_row(row):
    if not isinstance(row, str):
        raise NoRow("a row is a text")
    parts = split_row(row)
    if parts[0] not in SHAPES:
        raise NoRow("no row begins so")
    sorts = SHAPES[parts[0]]
    if len(parts) != len(sorts) + 1:
        raise NoRow("a row has as many words as its first one asks for")
    if not all([fits(sort, part) for sort, part in zip(sorts, parts[1:])]):
        raise NoRow("each word is of the sort that its place asks for")
    return parts


def found_answer(theory, size):
    sort, answer = found(theory, size)
    if sort == "paper":
        return "none"
    return str(code(theory[0], answer))


def least_answer(theory, most):
    try:
        world, papers = smallest(theory, most)
        return str(world[0])
    except NoWorld:
        return "none"


def count_answer(theory, size):
    number = how_many(theory, size)
    number_unlike = len(unlike(theory, size))
    return f"{number} {number_unlike}"


def form_answer(theory, size, number):
    words = theory[0]
    return str(code(words, form(words, world_of(words, size, number))))


def keeps_answer(theory, size, number):
    words, sayings = theory
    broken = first_broken(words, world_of(words, size, number), sayings)
    if broken is None:
        return "yes"
    return str(broken)


def matters_answer(theory, size, number):
    sort, answer = matters(theory, size, number)
    if sort == "paper":
        return "no"
    return str(code(theory[0], answer))


def quarrel_answer(theory, size):
    try:
        numbers, paper, worlds = quarrel(theory, size)
        return " ".join([str(number) for number in numbers])
    except Kept:
        return "none"


def same_answer(one, other, most):
    answer = same_or_parted(one, other, most)
    if answer[0] == "same":
        return "yes"
    world = answer[1]
    size = world[0]
    number = code(one[0], world)
    return f"{size} {number}"


def answer_of_size(first, theory, size):
    if first == "find":
        return found_answer(theory, size)
    if first == "least":
        return least_answer(theory, size)
    if first == "count":
        return count_answer(theory, size)
    return quarrel_answer(theory, size)


def answer_of_number(first, theory, size, number):
    if first == "form":
        return form_answer(theory, size, number)
    if first == "keeps":
        return keeps_answer(theory, size, number)
    return matters_answer(theory, size, number)


class Desk:
    def __init__(self):
        self.theories = {}

    def standing(self, word):
        if word not in self.theories:
            raise NoStand("no theory stands by the word")
        return self.theories[word]

    def say(self, row):
        parts = parts_of_row(row)
        if parts[0] == "begin":
            self.theories[parts[1]] = EMPTY
            return "ok"
        theory = self.standing(parts[1])
        if parts[0] == "tell":
            self.theories[parts[1]] = with_row(theory, parts[2])
            return "ok"
        if parts[0] == "drop":
            self.theories.pop(parts[1])
            return "ok"
        return self.answer(parts, theory)

    def answer(self, parts, theory):
        if parts[0] == "show":
            return "; ".join(shown_theory(theory))
        if parts[0] == "same":
            return same_answer(theory, self.standing(parts[2]), int(parts[3]))
        size = int(parts[2])
        if len(parts) == 3:
            return answer_of_size(parts[0], theory, size)
        return answer_of_number(parts[0], theory, size, int(parts[3]))
