"""Promise 27, with 2, 3 and 26: the desk, each of its rows answered and refused."""

import itertools
import random
import re
import unittest

import model
from worldfind.desk import Desk
from worldfind.errors import (
    Crowded, NoCode, NoNumber, NoRow, NoSize, NoStand, NoText, TooBig, Unlike,
)
from worldfind.theories import read_theory, shown_theory

ORDER = ["tie r", "say r . r in r", "say no r & same"]
QUARREL = ["tie r", "say no none", "say some r", "say least 0 all", "say no r"]
BIG = ["tie r", "tie s", "say r in s"]
# Each row but `tell`, asking of the theory `t`.
ASKING = [
    "drop t", "show t", "find t 2", "least t 2", "count t 2", "form t 2 5", "keeps t 2 5", "matters t 2 0", "quarrel t 2",
    "same t t 2", "same t u 2", "same u t 2",
]
SIZED = ["find t #", "least t #", "count t #", "form t # 0", "keeps t # 0", "matters t # 0", "quarrel t #", "same t u #"]
ENDS = ["find", "least", "count", "quarrel"]
NO_TEXTS = [None, 0, 1, True, False, 1.5, b"begin t", ("begin t",), ["begin t"], ["begin", "t"], [], (), {}, {"begin t": 1}]
NO_WORDS = [
    "", "T", "Tt", "tT", "t1", "1", "abcdefghi", "abcdefghijklmnop", "t-u", "t_u", "t.", "~t", "t,", "t\t", "t\n", "\tt", "'t'",
    '"t"', ";", "*",
]
NO_FIGURES = ["", "a", "two", "-1", "+1", "1.0", "1a", "a1", "0x1", "1_0", "\t1", "1\n", "(1)", "1,", "0b1", "1e1", "None", "."]
WORDS = ["t", "a", "z", "abcdefgh", "begin", "tell", "show", "same", "kind", "tie", "say", "some", "none", "ok", "zzzzzzzz"]
WORD, SIZE, NUMBER, CODE = "[a-z]{1,8}", "[0-9]", "(0|[1-9][0-9]?)", "(0|[1-9][0-9]{0,4})"
# All rows, whatever stands at the desk.
ROW = re.compile(
    f"(begin|drop|show) {WORD}|tell {WORD} .*|(find|least|count|quarrel) {WORD} {SIZE}|(form|keeps) {WORD} {SIZE} {CODE}"
    f"|matters {WORD} {SIZE} {NUMBER}|same {WORD} {WORD} {SIZE}", re.DOTALL)


def desk_with(**theories):
    """A desk at which these theories stand, each by its rows."""
    desk = Desk()
    for word, rows in theories.items():
        desk.say("begin " + word)
        for row in rows:
            desk.say("tell " + word + " " + row)
    return desk


def shown(desk, words):
    """All that stands at the desk by these words."""
    answers = {}
    for word in words:
        try:
            answers[word] = desk.say("show " + word)
        except NoStand:
            answers[word] = None
    return answers


class Case(unittest.TestCase):
    def check(self, desk, row, text):
        answer = desk.say(row)
        self.assertEqual((answer, type(answer)), (text, str), row)

    def check_refused(self, desk, row, error, field=None, value=None):
        before = shown(desk, WORDS + ["u"])
        with self.assertRaises(error, msg=repr(row)) as taken:
            desk.say(row)
        self.assertIs(type(taken.exception), error, row)
        if field:
            told = getattr(taken.exception, field)
            self.assertEqual((told, type(told)), (value, type(value)), row)
        self.assertEqual(shown(desk, WORDS + ["u"]), before, row)


class Keeping(Case):
    def test_begin_tell_show_drop(self):
        desk = Desk()
        self.check(desk, "begin t", "ok")
        self.check(desk, "show t", "")
        self.check(desk, "tell t tie r", "ok")
        self.check(desk, "show t", "tie r")
        self.check(desk, "tell t kind k", "ok")
        self.check(desk, "tell t kind b", "ok")
        self.check(desk, "show t", "kind b; kind k; tie r")
        self.check(desk, "tell t say  [some(r)]  ", "ok")
        self.check(desk, "tell t say k in b or no ~r", "ok")
        self.check(desk, "show t", "kind b; kind k; tie r; say some r; say k in b or no ~r")
        self.check(desk, "drop t", "ok")
        self.check_refused(desk, "show t", NoStand)
        self.check(desk, "begin t", "ok")
        self.check(desk, "show t", "")

    def test_words_of_one_to_eight_small_letters(self):
        desk = Desk()
        for word in WORDS:
            self.check(desk, "begin " + word, "ok")
            self.check(desk, f"tell {word} tie r", "ok")
            self.check(desk, f"tell {word} say some r", "ok")
            self.check(desk, "show " + word, "tie r; say some r")
            self.check(desk, f"find {word} 0", "none")
            self.check(desk, f"same {word} t 2", "yes")
            self.check(desk, f"same t {word} 2", "yes")
        for word in WORDS:
            self.check(desk, "drop " + word, "ok")
            self.check_refused(desk, "drop " + word, NoStand)

    def test_begin_in_the_place_of_one_that_stands(self):
        desk = desk_with(t=ORDER, u=QUARREL)
        self.check(desk, "begin t", "ok")
        self.check(desk, "show t", "")
        self.check(desk, "show u", "; ".join(QUARREL))
        self.check(desk, "tell t kind k", "ok")
        self.check(desk, "show t", "kind k")

    def test_theories_stand_by_themselves(self):
        desk = desk_with(t=ORDER, u=ORDER)
        self.check(desk, "tell t say some r", "ok")
        self.check(desk, "show u", "; ".join(ORDER))
        self.check(desk, "drop u", "ok")
        self.check(desk, "show t", "; ".join(ORDER + ["say some r"]))

    def test_desks_know_nothing_of_one_another(self):
        one, other = Desk(), Desk()
        self.check(one, "begin t", "ok")
        self.check_refused(other, "show t", NoStand)
        self.check(other, "begin t", "ok")
        self.check(one, "tell t tie r", "ok")
        self.check(other, "show t", "")
        self.check(other, "tell t kind k", "ok")
        self.check(one, "show t", "tie r")
        self.check(one, "drop t", "ok")
        self.check(other, "show t", "kind k")
        self.check_refused(Desk(), "show t", NoStand)

    def test_rows_told_one_by_one_are_a_theory_as_it_is_read(self):
        chance = random.Random(121)
        for place in range(60):
            words = chance.choice([((), ()), (("k",), ("r",)), (("k", "l"), ("r", "s"))])
            sayings = tuple(model.some_saying(words, 2, chance) for number in range(chance.randrange(13)))
            rows = shown_theory((words, sayings))
            names = len(words[0] + words[1])
            ahead = rows[:names]
            chance.shuffle(ahead)
            desk = desk_with(t=ahead + rows[names:])
            self.check(desk, "show t", "; ".join(rows))
            self.assertEqual(read_theory(desk.say("show t").split("; ") if rows else []), (words, sayings))


class Rows(Case):
    def setUp(self):
        self.desk = desk_with(t=ORDER, u=ORDER)

    def test_what_is_no_text(self):
        for thing in NO_TEXTS:
            self.check_refused(self.desk, thing, NoRow)
            self.check_refused(Desk(), thing, NoRow)

    def test_first_words_that_are_none(self):
        rows = ["", " ", "  ", "t", "ok", "tie r", "say some r", "kind k", "list", "help", "holds t 2", "unlike t 2",
                "follows t 2 some r", "beginn t", "begi t", "read t", "number t 2 0", "code t 2 0", "?", "\n", "found t 2"]
        rows += [row[0].upper() + row[1:] for row in ASKING] + [row.upper() for row in ASKING]
        rows += ["\t" + row for row in ASKING] + [row.replace(" ", "\t") for row in ASKING]
        rows += [row.replace(" ", "") for row in ASKING] + [row.replace(" ", ";") for row in ASKING]
        for row in rows + ["TELL t tie s", "tells t tie s", "tell\tt tie s", "BEGIN t", "begin\tt"]:
            self.check_refused(self.desk, row, NoRow)

    def test_number_of_words(self):
        for row in ASKING + ["begin t"]:
            words = row.split(" ")
            for number in range(1, len(words)):
                self.check_refused(self.desk, " ".join(words[:number]), NoRow)
            for more in ("t", "0", "1", "2", "2 0", "x", "tie r"):
                self.check_refused(self.desk, row + " " + more, NoRow)

    def test_blanks_leave_words_without_signs(self):
        for row in ASKING + ["begin t", "begin z"]:
            self.check_refused(self.desk, " " + row, NoRow)
            self.check_refused(self.desk, row + " ", NoRow)
            self.check_refused(self.desk, row + "\n", NoRow)
            for place in [place for place, sign in enumerate(row) if sign == " "]:
                self.check_refused(self.desk, row[:place] + " " + row[place:], NoRow)
                # As many words as asked for, but one has no signs.
                words = row.split(" ")
                for number in range(len(words)):
                    self.check_refused(self.desk, " ".join(words[:number] + [""] + words[number + 1:]), NoRow)

    def test_words_for_a_theory(self):
        for word in NO_WORDS:
            for row in ASKING + ["begin t"]:
                words = row.split(" ")
                for place in [place for place, one in enumerate(words) if one in ("t", "u")]:
                    self.check_refused(self.desk, " ".join(words[:place] + [word] + words[place + 1:]), NoRow)
            self.check_refused(self.desk, f"tell {word} tie s", NoRow)
            self.check_refused(self.desk, f"tell {word} ", NoRow)

    def test_sizes_are_one_figure(self):
        wrong = NO_FIGURES + ["00", "01", "02", "10", "12", "99", "002", "222"]
        for row in SIZED:
            for size in wrong:
                self.check_refused(self.desk, row.replace("#", size), NoRow)
            for size in range(4):
                self.assertIs(type(self.desk.say(row.replace("#", str(size)))), str)
            for size in range(5, 10):
                self.check_refused(self.desk, row.replace("#", str(size)), NoSize)

    def test_codes_are_one_to_five_figures(self):
        for first in ("form", "keeps"):
            for code in NO_FIGURES + ["00", "01", "000", "05", "00005", "012", "000000", "100000", "123456", "0123456"]:
                self.check_refused(self.desk, f"{first} t 4 {code}", NoRow)
            for code in (0, 1, 9, 10, 99, 100, 999, 1000, 9999, 10000, 65535):
                self.assertIs(type(self.desk.say(f"{first} t 4 {code}")), str)
            for code in (65536, 99999):
                self.check_refused(self.desk, f"{first} t 4 {code}", NoCode)

    def test_numbers_are_one_or_two_figures(self):
        for number in NO_FIGURES + ["00", "01", "000", "001", "012", "100", "123", "999"]:
            self.check_refused(self.desk, "matters t 2 " + number, NoRow)
        for number in (2, 3, 9, 10, 12, 99):
            self.check_refused(self.desk, f"matters t 2 {number}", NoNumber, "number", number)

    def test_rows_by_chance(self):
        chance = random.Random(122)
        rows = ASKING + ["begin t", "tell t tie s", "tell t ", "matters abcdefgh 9 99", "keeps t 0 99999", "same z same 0"]
        right = 0
        for place in range(20000):
            row = chance.choice(rows)
            for number in range(chance.randrange(1, 4)):
                spot = chance.randrange(len(row) + 1)
                sign = chance.choice(["", " ", "t", "0", "1", "9", "T", "\n", ";"])
                row = row[:spot] + sign + row[spot + chance.randrange(2):]
            try:
                self.assertEqual(Desk().say(row), "ok", row)
                self.assertEqual(row[:6], "begin ")
                is_row = True
            except NoStand:
                is_row = True
            except NoRow:
                is_row = False
            self.assertIs(is_row, ROW.fullmatch(row) is not None, repr(row))
            right += is_row
        self.assertGreater(right, 1000)

    def test_no_row_ahead_of_all_else(self):
        for row in ("find x 10", "find x -1", "find X 2", "matters x 2 100", "matters x 9 00", "form x 9 100000",
                    "keeps x 9 01", "same x y 10", "same x Y 2", "same t X 2", "show X", "drop X", "tell X tie r", "tell x",
                    "quarrel x", "least x 11", "count x 2 2", "matters t 9 100", "form t 9 00"):
            self.check_refused(self.desk, row, NoRow)


class Standing(Case):
    def test_no_theory_by_the_word(self):
        for desk in (Desk(), desk_with(a=ORDER, tt=ORDER)):
            for row in ASKING:
                self.check_refused(desk, row, NoStand)
            for row in ("", " ", "tie s", "kind", "say", "say some r", "nonsense", "tie  r"):
                self.check_refused(desk, "tell t " + row, NoStand)

    def test_either_of_two(self):
        desk = desk_with(t=ORDER)
        self.check_refused(desk, "same t u 2", NoStand)
        self.check_refused(desk, "same u t 2", NoStand)
        self.check_refused(desk, "same u u 2", NoStand)
        self.check(desk, "same t t 2", "yes")

    def test_ahead_of_what_the_stages_refuse(self):
        desk = desk_with(t=ORDER)
        for row in ("find u 9", "least u 5", "count u 4", "form u 5 0", "form u 0 99999", "keeps u 9 99999",
                    "matters u 2 99", "matters u 9 99", "quarrel u 7", "same u t 9", "same t u 9", "tell u x"):
            self.check_refused(desk, row, NoStand)

    def test_begin_needs_none(self):
        self.check(Desk(), "begin t", "ok")


class Telling(Case):
    def test_row_is_all_that_follows(self):
        desk = desk_with(t=["tie r"])
        self.check(desk, "tell t say  some   r  or no r ", "ok")
        self.check(desk, "tell t say [ not some r ]", "ok")
        self.check(desk, "show t", "tie r; say some r or no r; say not some r")

    def test_refused_with_the_number_of_rows_taken_ahead(self):
        rows = ["tie r", "kind k", "say some r", "say some k"]
        wrong = ["", " ", "kind", "tie", "say", "say ", "kind  b", " kind b", " tie s", "kind b ", "tie s u", "kind K", "tie 1",
                 "kind some", "tie say", "say some s", "say some", "say r", "nonsense", "tell t tie s", "begin t", "say some R",
                 "kind abcdefghi", "kind k; tie r", "  ", "say kind k", "\tkind b"]
        for number in range(5):
            desk = desk_with(t=rows[:number])
            for row in wrong:
                self.check_refused(desk, "tell t " + row, NoText, "row", number)
            late = ["kind b", "tie s"] if number > 2 else []
            told_already = ["kind r", "tie r"] if number > 0 else []
            told_already += ["kind k", "tie k"] if number > 1 else []
            for row in late + told_already:
                self.check_refused(desk, "tell t " + row, NoText, "row", number)
            for row in rows[number:]:
                self.check(desk, "tell t " + row, "ok")
            self.check(desk, "show t", "kind k; tie r; say some r; say some k")

    def test_without_a_row(self):
        desk = desk_with(t=["tie r"])
        self.check_refused(desk, "tell t", NoRow)
        self.check_refused(desk, "tell", NoRow)
        self.check_refused(desk, "tell ", NoRow)
        self.check_refused(desk, "tell  ", NoRow)
        self.check_refused(desk, "tell  t tie s", NoRow)
        self.check_refused(desk, "tell t ", NoText, "row", 1)

    def test_a_fifth_name_and_a_thirteenth_saying(self):
        kinds, ties = ["kind " + name for name in "abcd"], ["tie " + name for name in "efgh"]
        for first, other in ((kinds, ties), (ties, kinds)):
            desk = desk_with(t=first)
            self.check_refused(desk, "tell t " + first[0][:-1] + "z", NoText, "row", 4)
            for row in other:
                self.check(desk, "tell t " + row, "ok")
            for row in ("kind z", "tie z"):
                self.check_refused(desk, "tell t " + row, NoText, "row", 8)
            for number in range(12):
                self.check(desk, f"tell t say most {number} a", "ok")
            self.check_refused(desk, "tell t say most 12 a", NoText, "row", 20)

    def test_refused_rows_are_not_counted(self):
        desk = Desk()
        desk.say("begin t")
        for number, row in enumerate(ORDER):
            for place in range(3):
                self.check_refused(desk, "tell t nonsense", NoText, "row", number)
            self.check(desk, "tell t " + row, "ok")
        self.check(desk, "begin t", "ok")
        self.check_refused(desk, "tell t nonsense", NoText, "row", 0)


class Answers(Case):
    def test_find(self):
        desk = desk_with(t=["tie r", "say some r", "say most 1 r", "say r in same"], u=QUARREL, none=[])
        self.check(desk, "find t 0", "none")
        self.check(desk, "find t 1", "1")
        self.assertIn(desk.say("find t 2"), ["1", "8"])
        self.assertIn(desk.say("find t 4"), [str(1 << place) for place in (0, 5, 10, 15)])
        for size in range(5):
            self.check(desk, f"find u {size}", "none")
            self.check(desk, f"find none {size}", "0")
        several = desk_with(t=["kind k", "tie r", "tie s", "say k = same", "say r = all - same", "say s = none"])
        self.check(several, "find t 2", str(3 + (6 << 2)))

    def test_least(self):
        desk = desk_with(t=["tie r", "say least 5 r"], u=QUARREL, none=[])
        for size in range(5):
            self.check(desk, f"least t {size}", "3" if size > 2 else "none")
            self.check(desk, f"least u {size}", "none")
            self.check(desk, f"least none {size}", "0")

    def test_count(self):
        desk = desk_with(t=ORDER, u=QUARREL, none=[], k=["kind k", "kind l"])
        for size, answer in enumerate(["1 1", "1 1", "3 2", "19 5"]):
            self.check(desk, f"count t {size}", answer)
            self.check(desk, f"count u {size}", "0 0")
        for size, answer in enumerate(["1 1", "4 4", "16 10", "64 20", "256 35"]):
            self.check(desk, f"count k {size}", answer)
            self.check(desk, f"count none {size}", "1 1")

    def test_form(self):
        desk = desk_with(t=["tie r"], k=["kind k", "tie r"])
        for code, form in enumerate([0, 1, 2, 3, 2, 5, 6, 7, 1, 9, 5, 11, 3, 11, 7, 15]):
            self.check(desk, f"form t 2 {code}", str(form))
        self.check(desk, "form t 0 0", "0")
        self.check(desk, "form t 4 32768", "1")
        self.check(desk, "form t 4 65535", "65535")
        # Thing 1 of the kind, tied to 0: thing 0, tied to 1.
        self.check(desk, "form k 2 18", str(1 + (2 << 2)))

    def test_keeps(self):
        desk = desk_with(t=["tie r", "say some r", "say no r & same", "say r = ~r"], none=["tie r"])
        self.check(desk, "keeps t 2 0", "0")
        self.check(desk, "keeps t 2 1", "1")
        self.check(desk, "keeps t 2 2", "2")
        self.check(desk, "keeps t 2 3", "1")
        self.check(desk, "keeps t 2 6", "yes")
        self.check(desk, "keeps t 0 0", "0")
        for code in range(16):
            self.check(desk, f"keeps none 2 {code}", "yes")
        twelve = desk_with(t=["tie r"] + ["say no none"] * 11 + ["say some r"])
        self.check(twelve, "keeps t 3 0", "11")
        self.check(twelve, "keeps t 3 256", "yes")

    def test_matters(self):
        desk = desk_with(t=["tie r", "say some r", "say no r & same", "say some r", "say most 1 r", "say some same"])
        self.check(desk, "matters t 2 0", "no")
        self.check(desk, "matters t 2 2", "no")
        self.check(desk, "matters t 2 4", "no")
        self.assertIn(desk.say("matters t 2 1"), ["1", "8"])
        self.check(desk, "matters t 2 3", "6")
        several = desk_with(t=["kind k", "tie r", "tie s", "say k = none", "say r = none", "say s = all"])
        self.check(several, "matters t 1 0", "5")
        self.check(several, "matters t 1 1", "6")
        self.check(several, "matters t 1 2", "0")
        self.assertIn(several.say("matters t 2 0"), [str(960 + kind) for kind in (1, 2, 3)])
        twelve = desk_with(t=["tie r"] + ["say no none"] * 11 + ["say some r"])
        self.check(twelve, "matters t 4 10", "no")
        self.check(twelve, "matters t 4 11", "0")

    def test_quarrel(self):
        desk = desk_with(t=ORDER, u=QUARREL, many=["tie r"] + ["say no none"] * 10 + ["say some r", "say no r"])
        for size in range(5):
            self.check(desk, f"quarrel t {size}", "none")
            self.check(desk, f"quarrel u {size}", "1 3" if size else "1")
            self.check(desk, f"quarrel many {size}", "10 11" if size else "10")

    def test_same(self):
        desk = desk_with(t=ORDER, u=["tie r", "say ^r = r", "say no r & ~r"], v=["tie r", "say no r & same"], w=["tie r"])
        for size in range(5):
            self.check(desk, f"same t u {size}", "yes")
            self.check(desk, f"same u t {size}", "yes")
        self.check(desk, "same v w 0", "yes")
        self.check(desk, "same v w 1", "1 1")
        self.check(desk, "same v w 4", "1 1")
        self.check(desk, "same t v 1", "yes")
        self.check(desk, "same t v 2", "2 6")
        self.check(desk, "same v t 4", "2 6")
        several = desk_with(
            t=["kind k", "tie r", "tie s", "say k = same", "say r = all", "say s = same"],
            u=["kind k", "tie r", "tie s", "say k = same", "say r = all", "say s = same", "say most 1 same"])
        self.check(several, "same t u 1", "yes")
        self.check(several, "same u t 2", f"2 {3 + (15 << 2) + (9 << 6)}")

    def test_asking_changes_nothing(self):
        desk = desk_with(t=ORDER, u=QUARREL)
        before = [desk.say(row) for row in ASKING if row[:4] not in ("drop",)]
        for place in range(2):
            self.assertEqual([desk.say(row) for row in ASKING if row[:4] not in ("drop",)], before)
        self.check(desk, "show t", "; ".join(ORDER))
        self.check(desk, "show u", "; ".join(QUARREL))


class RefusedByTheStages(Case):
    def test_no_size(self):
        desk = desk_with(t=ORDER, u=ORDER, a=BIG, z=BIG)
        for size in range(5, 10):
            for row in SIZED:
                self.check_refused(desk, row.replace("#", str(size)), NoSize)
                big = row.replace("#", str(size)).replace(" t ", " a ").replace(" u ", " z ")
                self.check_refused(desk, big, NoSize)
            for first in ("form", "keeps"):
                self.check_refused(desk, f"{first} t {size} 99999", NoSize)

    def test_too_big(self):
        desk = desk_with(t=BIG, u=BIG)
        for first in ENDS:
            self.check_refused(desk, f"{first} t 3", TooBig, "bits", 18)
            self.check_refused(desk, f"{first} t 4", TooBig, "bits", 32)
        self.check_refused(desk, "matters t 3 0", TooBig, "bits", 18)
        self.check_refused(desk, "same t u 4", TooBig, "bits", 32)
        self.assertIs(type(desk.say("same t u 2")), str)

    def test_counting_is_for_nine_bits(self):
        desk = desk_with(t=ORDER, u=["kind k", "tie r", "tie s"])
        self.check_refused(desk, "count t 4", TooBig, "bits", 16)
        self.check_refused(desk, "count u 2", TooBig, "bits", 10)
        self.assertEqual(desk.say("find u 2"), "0")

    def test_forms_and_keeping_are_for_any_bits(self):
        desk = desk_with(t=BIG, u=["kind " + name for name in "abcd"] + ["tie " + name for name in "efgh"])
        self.check(desk, "keeps t 4 65535", "0")
        self.check(desk, "keeps t 4 0", "yes")
        self.check(desk, "form t 4 32768", "1")
        self.check(desk, "keeps u 4 99999", "yes")
        words = (tuple("abcd"), tuple("efgh"))
        least = model.least_alike(words, model.parts_of_world(words, 4, 99999))
        self.check(desk, "form u 4 99999", str(model.code_of_world(words, least)))

    def test_no_code(self):
        desk = desk_with(t=ORDER, none=[])
        for first in ("form", "keeps"):
            for size, end in enumerate((1, 2, 16, 512, 65536)):
                self.assertIs(type(desk.say(f"{first} t {size} {end - 1}")), str)
                self.check_refused(desk, f"{first} t {size} {end}", NoCode)
                self.check_refused(desk, f"{first} t {size} 99999", NoCode)
                self.check_refused(desk, f"{first} none {size} 1", NoCode)

    def test_no_number_ahead_of_the_size(self):
        desk = desk_with(t=BIG, none=[])
        for size in range(10):
            for number in (1, 2, 11, 12, 99):
                self.check_refused(desk, f"matters t {size} {number}", NoNumber, "number", number)
            self.check_refused(desk, f"matters none {size} 0", NoNumber, "number", 0)

    def test_same_of_unlike_words_and_of_twelve(self):
        twelve = ["tie r"] + ["say no none"] * 12
        desk = desk_with(t=ORDER, u=["tie s"], a=twelve, z=["kind r"])
        for size in range(10):
            for one, other in itertools.permutations(["t", "u", "z"], 2):
                self.check_refused(desk, f"same {one} {other} {size}", Unlike)
        for size in range(5):
            for one, other in (("a", "t"), ("t", "a"), ("a", "a")):
                self.check_refused(desk, f"same {one} {other} {size}", Crowded)
        self.check_refused(desk, "same a t 5", NoSize)
        self.check(desk, "matters a 2 11", "no")


if __name__ == "__main__":
    unittest.main()
