"""Promise 26, with 2 and 3: theories written in rows, and which row is refused."""

import itertools
import random
import unittest

import model
from worldfind.errors import NoText
from worldfind.papers import theory_of
from worldfind.reading import read_saying
from worldfind.showing import shown_saying
from worldfind.theories import read_theory, shown_theory

TAKEN = "some no least most each in and or not same all none kind tie say".split()
NO_TEXTS = [
    None, 0, 1, True, False, 1.5, b"kind k", ("kind k",), ["kind k"], [], (), {}, {"kind k": 1}, ("kind", "k"),
    ["say", "some r"], ("some", ("name", "r")),
]
NO_ROWS = [
    "", " ", "  ", "kind", "tie", "say", "kind ", "tie ", "say ", "say  ", " kind m", " tie t", " say some r", "kind  m",
    "tie  t", "kind m ", "tie t ", "kind m n", "tie t u", "kinds m", "ties t", "says some r", "Kind m", "TIE t",
    "Say some r", "kind\tm", "tie\tt", "say\tsome r", "kind\nm", "kindm", "tiet", "saysome r", "say:some r", "kind:m",
    "some r", "m", "r", "kind m;", "kind m; tie t", "tie t; say some r", "say some r; say no r", "name m", "saying some r",
    "kind m\n", "tie t\n", "say some r\n", "\nkind m", "k m", "ki nd m", "tell kind m", "# kind m", "say some r #",
]
NO_NAMES = TAKEN + [
    "", "M", "mM", "m1", "1", "abcdefghi", "abcdefghijklmnop", "m-n", "m_n", "m.", "~m", "mn o", " m", "m ", "m\t", "'m'",
    '"m"', "m,n", "m=n", "(m)", "[m]",
]
NO_SAYINGS = [
    "", " ", "some", "some s", "some m", "r", "no", "least r", "least 100 r", "least 01 r", "most -1 r", "each r",
    "some r some r", "some r and", "or some r", "not", "[some r", "some r]", "some (r", "some r)", "r in", "in r", "r = = r",
    "r == r", "some R", "some r;", "some r, no r", "some\tr", "kind m", "tie t", "say some r", "r + in r", "some r + + r",
    "some " + "~" * 21 + "r", "some " + "(" * 21 + "r" + ")" * 21, "[" * 21 + "some r" + "]" * 21, "not " * 21 + "some r",
]
WORDS = (("k",), ("r",))
ALWAYS = ("no", ("none",))
SOME_R = ("some", ("name", "r"))
KINDS = ["kind " + name for name in ("a", "b", "c", "d")]
TIES = ["tie " + name for name in ("e", "f", "g", "h")]


class Case(unittest.TestCase):
    def check_read(self, rows, theory):
        before = list(rows)
        answer = read_theory(rows)
        self.assertEqual(answer, theory, rows)
        self.assertEqual(rows, before)
        self.check_kinds(answer)
        return answer

    def check_kinds(self, part):
        self.assertIn(type(part), (tuple, str, int))
        if type(part) is tuple:
            for inner in part:
                self.check_kinds(inner)

    def check_refused(self, rows, number):
        before = list(rows)
        with self.assertRaises(NoText, msg=rows) as taken:
            read_theory(rows)
        self.assertEqual((taken.exception.row, type(taken.exception.row)), (number, int), rows)
        self.assertEqual(rows, before)

    def check_refused_anywhere(self, row, ahead=(), behind=()):
        """The row refused behind each of the rows ahead, whatever stands behind it."""
        for number in range(len(ahead) + 1):
            self.check_refused(list(ahead[:number]) + [row] + list(behind), number)
            self.check_refused(list(ahead[:number]) + [row], number)
            self.check_refused(list(ahead[:number]) + [row, row, None, ""], number)


class Read(Case):
    def test_written_out(self):
        self.check_read([], (((), ()), ()))
        self.check_read(["kind k"], ((("k",), ()), ()))
        self.check_read(["tie r"], (((), ("r",)), ()))
        self.check_read(["say no none"], (((), ()), (ALWAYS,)))
        rows = ["tie son", "kind man", "kind boy", "say boy in man", "say each most 1 man . son"]
        sayings = (("in", ("name", "boy"), ("name", "man")),
                   ("eachmost", 1, ("joined", ("name", "man"), ("name", "son"))))
        self.check_read(rows, ((("boy", "man"), ("son",)), sayings))

    def test_names_in_any_order_are_told_sorted(self):
        for rows in itertools.permutations(["kind b", "tie d", "kind a", "tie c"]):
            theory = self.check_read(list(rows) + ["say some c . d", "say a in b"], (
                (("a", "b"), ("c", "d")),
                (("some", ("joined", ("name", "c"), ("name", "d"))), ("in", ("name", "a"), ("name", "b")))))
            self.assertEqual(theory[0], (("a", "b"), ("c", "d")))

    def test_names_of_one_to_eight_letters(self):
        for length in range(1, 9):
            name = "zyxwvuts"[:length]
            self.check_read(["kind " + name], (((name,), ()), ()))
            self.check_read(["tie " + name], (((), (name,)), ()))
            self.check_read(["tie " + name, "say some " + name], (((), (name,)), (("some", ("name", name)),)))
        for word in TAKEN:
            self.check_read(["kind " + word + "x", "tie x" + word], (((word + "x",), ("x" + word,)), ()))

    def test_four_of_each_sort(self):
        names = (("a", "b", "c", "d"), ("e", "f", "g", "h"))
        self.check_read(KINDS + TIES, (names, ()))
        self.check_read(TIES[::-1] + KINDS[::-1], (names, ()))
        mixed = [row for pair in zip(TIES, KINDS) for row in pair]
        self.check_read(mixed + ["say some a . e"] * 12, (names, (("some", ("joined", ("name", "a"), ("name", "e"))),) * 12))

    def test_none_to_twelve_sayings_in_their_order(self):
        texts = [f"most {number} r" for number in range(12)]
        for number in range(13):
            for order in (texts[:number], texts[:number][::-1]):
                sayings = tuple(("most", int(text.split()[1]), ("name", "r")) for text in order)
                self.check_read(["tie r"] + ["say " + text for text in order], (((), ("r",)), sayings))

    def test_text_of_a_saying_is_read_as_by_itself(self):
        texts = ["some r", "  some   r  ", "some(r)", "k in r", "k=r", "each least 2 ~^r", "not [some r and no r] or no k",
                 "least 99 r . r", "least 0 none", "r . r - r + r & r in same", "not " * 20 + "some r", "some " + "~" * 20 + "r"]
        for text in texts:
            self.check_read(["kind k", "tie r", "say " + text], (WORDS, (read_saying(WORDS, text),)))

    def test_rows_that_were_handed_in_may_be_changed_later(self):
        rows = ["tie r", "say some r"]
        theory = read_theory(rows)
        rows.append("say no r")
        rows[0] = "kind r"
        self.assertEqual(theory, (((), ("r",)), (SOME_R,)))


class Refused(Case):
    def test_what_is_no_text(self):
        for thing in NO_TEXTS:
            self.check_refused_anywhere(thing, ["kind k", "tie r", "say some r", "say some k"], ["say no r"])

    def test_what_is_no_row(self):
        for row in NO_ROWS:
            self.check_refused_anywhere(row, ["tie r", "kind k", "say some r", "say some k"], ["say no r"])
            self.check_refused_anywhere(row, ["tie m", "tie r"], ["kind k"])

    def test_what_is_no_name(self):
        for name in NO_NAMES:
            for word in ("kind ", "tie "):
                self.check_refused_anywhere(word + name, ["kind k", "tie r", "kind l"], ["tie s", "say some r"])

    def test_names_that_come_too_late(self):
        for row in ("kind a", "tie a", "kind k", "tie r", "kind r", "tie k"):
            self.check_refused(["say no none", row], 1)
            self.check_refused(["kind k", "tie r", "say some r", row], 3)
            self.check_refused(["kind k", "tie r", "say some r", "say some k", row, "say no k"], 4)
            self.check_refused(["kind k", "say some k", row, "kind", None], 2)

    def test_names_told_already(self):
        for word, other in itertools.product(("kind ", "tie "), repeat=2):
            self.check_refused([word + "a", other + "a"], 1)
            self.check_refused([word + "a", "kind b", "tie c", other + "a", "say some a"], 3)
            self.check_refused(["kind b", word + "abcdefgh", other + "abcdefgh"], 2)

    def test_a_fifth_of_its_sort(self):
        for others in ([], TIES[:1], TIES):
            self.check_refused(KINDS + others + ["kind z"], 4 + len(others))
            self.check_refused(others + KINDS + ["kind z", "say some z"], 4 + len(others))
        for others in ([], KINDS[:1], KINDS):
            self.check_refused(TIES + others + ["tie z"], 4 + len(others))
            self.check_refused(others + TIES + ["tie z", "say some z"], 4 + len(others))

    def test_a_thirteenth_saying(self):
        for names in ([], ["tie r"], KINDS + TIES):
            for text in ("no none", "least 0 all"):
                self.check_refused(names + ["say " + text] * 13, len(names) + 12)
                self.check_refused(names + ["say " + text] * 14 + [None], len(names) + 12)
                self.assertEqual(len(read_theory(names + ["say " + text] * 12)[1]), 12)

    def test_what_is_no_saying(self):
        for text in NO_SAYINGS:
            self.check_refused(["say " + text], 0)
            self.check_refused(["tie r", "say " + text], 1)
            self.check_refused(["kind k", "tie r", "say some r", "say " + text, "say some k"], 3)

    def test_a_saying_of_the_words_told_so_far(self):
        self.check_refused(["say some r", "tie r"], 0)
        self.check_refused(["kind k", "say some r", "tie r"], 1)
        self.check_refused(["kind k", "tie r", "say k in r", "say some s", "tie s"], 3)
        self.check_read(["kind k", "tie r", "say k in r"], (WORDS, (("in", ("name", "k"), ("name", "r")),)))

    def test_the_first_of_several(self):
        good = ["kind k", "tie r", "say some r", "say some k"]
        bad = [None, "", "kind K", "say some s", "tie r s"]
        for number in range(5):
            for one, other in itertools.product(bad, repeat=2):
                self.check_refused(good[:number] + [one] + good[number:] + [other], number)
                self.check_refused(good[:number] + [one, other] + good[number:], number)


class Shown(Case):
    def check_shown(self, theory, rows):
        before = repr(theory)
        answer = shown_theory(theory)
        self.assertEqual((answer, type(answer), repr(theory)), (rows, list, before))
        self.assertEqual([type(row) for row in answer], [str] * len(rows))
        self.check_read(answer, theory)

    def test_written_out(self):
        self.check_shown((((), ()), ()), [])
        self.check_shown((WORDS, ()), ["kind k", "tie r"])
        self.check_shown((((), ()), (ALWAYS,)), ["say no none"])
        theory = read_theory(["tie son", "kind man", "kind boy", "say  boy  in(man)", "say [[some son]]", "say some son"])
        self.check_shown(theory, [
            "kind boy", "kind man", "tie son", "say boy in man", "say some son", "say some son"])

    def test_all_words(self):
        for kinds, ties in itertools.product(range(5), repeat=2):
            rows = KINDS[:kinds] + TIES[:ties]
            words = (tuple("abcd"[:kinds]), tuple("efgh"[:ties]))
            self.check_shown((words, ()), rows)
            self.check_shown((words, (ALWAYS,) * 12), rows + ["say no none"] * 12)

    def test_read_as_the_same(self):
        chance = random.Random(111)
        for words in (((), ()), WORDS, (("k", "l"), ("r", "s")), (tuple("abcd"), tuple("efgh"))):
            for place in range(60):
                sayings = [model.some_saying(words, 3, chance) for number in range(chance.randrange(13))]
                rows = ["kind " + name for name in words[0]] + ["tie " + name for name in words[1]]
                self.check_shown(theory_of(words, sayings), rows + ["say " + shown_saying(saying) for saying in sayings])

    def test_shown_read_and_shown_again(self):
        rows = ["tie r", "kind k", "say not [some r and some k]", "say k . r + (r - k) in same or each most 2 ~^(r . r)"]
        once = shown_theory(read_theory(rows))
        self.assertEqual(once, [rows[1], rows[0], rows[2], rows[3]])
        self.assertEqual(shown_theory(read_theory(once)), once)

    def test_list_that_was_told_is_the_asker_s_own(self):
        theory = (WORDS, (SOME_R,))
        rows = shown_theory(theory)
        rows.append("say no r")
        rows[0] = "kind l"
        self.assertEqual(shown_theory(theory), ["kind k", "tie r", "say some r"])
        shown_theory(theory).clear()
        self.assertEqual(shown_theory(theory), ["kind k", "tie r", "say some r"])


if __name__ == "__main__":
    unittest.main()
