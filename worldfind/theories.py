"""Theories written in rows: a row for each kind, each tie and each saying."""

from worldfind.errors import NoText, WorldError
from worldfind.papers import theory_of
from worldfind.reading import read_saying
from worldfind.showing import shown_saying
from worldfind.worlds import words_of

EMPTY = (((), ()), ())


# Each row leaves one name or one saying.
def rows_taken(theory):
    words, sayings = theory
    return len(words[0]) + len(words[1]) + len(sayings)


def taken(theory, row):
    words, sayings = theory
    if not isinstance(row, str):
        raise NoText(None)
    sort, blank, rest = row.partition(" ")
    if sort == "say":
        return theory_of(words, sayings + (read_saying(words, rest),))
    if sort == "kind" and sayings == ():
        return theory_of(words_of(words[0] + (rest,), words[1]), ())
    if sort == "tie" and sayings == ():
        return theory_of(words_of(words[0], words[1] + (rest,)), ())
    raise NoText(None)


def with_row(theory, row):
    try:
        return taken(theory, row)
    except WorldError:
        # Whatever part of a row is refused, it is told by the row's number alone.
        raise NoText(rows_taken(theory)) from None


def read_theory(rows):
    theory = EMPTY
    for row in rows:
        theory = with_row(theory, row)
    return theory


def shown_theory(theory):
    words, sayings = theory
    rows = ["kind " + name for name in words[0]]
    rows.extend(["tie " + name for name in words[1]])
    rows.extend(["say " + shown_saying(saying) for saying in sayings])
    return rows
