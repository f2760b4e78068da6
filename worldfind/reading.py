"""Sayings read from texts: a text as a list of signs, and the signs as a saying."""

from worldfind.errors import NoText
from worldfind.wholes import FIGURES, is_written
from worldfind.worlds import LETTERS

SINGLE_SIGNS = "+-&.~^()[]="
MOST_WITHIN = 20
MOST_FIGURES = 2
SORTS = {"+": "plus", "-": "less", "~": "turned", "^": "closed", "in": "in", "=": "equal"}


def sort_of_sign(sign):
    if sign in LETTERS:
        return "letter"
    if sign in FIGURES:
        return "figure"
    if sign in SINGLE_SIGNS:
        return "single"
    if sign == " ":
        return "blank"
    raise NoText(None)


# Letters that stand side by side are one sign, and so are figures.
def signs_of(text):
    signs = []
    ahead = "blank"
    for sign in text:
        sort = sort_of_sign(sign)
        if sort == ahead and sort in ("letter", "figure"):
            signs[-1] = signs[-1] + sign
        elif sort != "blank":
            signs.append(sign)
        ahead = sort
    return signs


def one_deeper(within):
    if within == MOST_WITHIN:
        raise NoText(None)
    return within + 1


# `within` tells of how many brackets, ~, ^ and `not` what is read stands within.
class Reader:
    def __init__(self, words, signs):
        self.names = words[0] + words[1]
        self.signs = signs
        self.place = 0

    # Behind the last sign it tells an empty text, which nothing asks for.
    def here(self):
        if self.place < len(self.signs):
            return self.signs[self.place]
        return ""

    def take(self):
        sign = self.here()
        self.place = self.place + 1
        return sign

    def take_just(self, asked):
        if self.take() != asked:
            raise NoText(None)

    def saying(self, within):
        left = self.part(within)
        while self.here() == "or":
            self.take()
            left = ("or", left, self.part(within))
        return left

    def part(self, within):
        left = self.unit(within)
        while self.here() == "and":
            self.take()
            left = ("and", left, self.unit(within))
        return left

    def unit(self, within):
        if self.here() == "not":
            self.take()
            return ("not", self.unit(one_deeper(within)))
        if self.here() == "[":
            self.take()
            saying = self.saying(one_deeper(within))
            self.take_just("]")
            return saying
        return self.fact(within)

    def fact(self, within):
        sign = self.here()
        if sign in ("some", "no"):
            self.take()
            return (sign, self.expression(within))
        if sign in ("least", "most"):
            return self.count_fact("", within)
        if sign == "each":
            self.take()
            return self.count_fact("each", within)
        return self.pair_fact(within)

    def count_fact(self, ahead, within):
        word = self.take()
        if word not in ("least", "most"):
            raise NoText(None)
        limit = self.limit()
        return (ahead + word, limit, self.expression(within))

    def limit(self):
        figures = self.take()
        if not is_written(figures, MOST_FIGURES):
            raise NoText(None)
        return int(figures)

    def pair_fact(self, within):
        left = self.expression(within)
        sign = self.take()
        if sign not in ("in", "="):
            raise NoText(None)
        return (SORTS[sign], left, self.expression(within))

    def expression(self, within):
        left = self.term(within)
        while self.here() in ("+", "-"):
            sort = SORTS[self.take()]
            left = (sort, left, self.term(within))
        return left

    def term(self, within):
        left = self.factor(within)
        while self.here() == "&":
            self.take()
            left = ("both", left, self.factor(within))
        return left

    def factor(self, within):
        left = self.atom(within)
        while self.here() == ".":
            self.take()
            left = ("joined", left, self.atom(within))
        return left

    def atom(self, within):
        sign = self.take()
        if sign in ("~", "^"):
            return (SORTS[sign], self.atom(one_deeper(within)))
        if sign == "(":
            expression = self.expression(one_deeper(within))
            self.take_just(")")
            return expression
        if sign in ("same", "all", "none"):
            return (sign,)
        if sign in self.names:
            return ("name", sign)
        raise NoText(None)


def read_saying(words, text):
    if not isinstance(text, str):
        raise NoText(None)
    signs = signs_of(text)
    reader = Reader(words, signs)
    saying = reader.saying(0)
    if reader.place < len(signs):
        raise NoText(None)
    return saying
