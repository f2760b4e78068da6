"""Promise 10, with 2: texts read as sayings, and what is refused with NoText."""

import itertools
import re
import unittest

from worldfind.errors import NoText
from worldfind.reading import read_saying

WORDS = (("k",), ("a", "b", "c", "likes"))
A, B, C, K, LIKES = [("name", name) for name in ("a", "b", "c", "k", "likes")]
TAKEN = "some no least most each in and or not same all none kind tie say".split()
EXPRESSION_SORTS = {"+": "plus", "-": "less", "&": "both", ".": "joined", "~": "turned", "^": "closed"}
ROUND_EXPRESSIONS = [
    "some #", "no #", "# in b", "b in #", "# = b", "b = #", "least 2 #", "each least 2 #", "some a + #",
    "b = a . # & c",
]
NO_TEXTS = [
    None, 0, 1, True, False, 1.5, b"some a", ("some a",), ["some a"], [], (), {}, {"some a": 1},
    ("some", ("name", "a")), ["some", "a"],
]


def last_place(signs, asked, brackets):
    """The last place outside brackets of a sign that is asked for, or None; -1 where brackets don't fit."""
    depth, place = 0, None
    for number, sign in enumerate(signs):
        depth += (sign == brackets[0]) - (sign == brackets[1])
        if depth < 0:
            return -1
        if depth == 0 and sign in asked:
            place = number
    return -1 if depth else place


def expected_expression(signs, names):
    """A tuple (expression, how many stand within one another), or None: by splitting at the loosest sign."""
    for asked in ("+-", "&", "."):
        place = last_place(signs, list(asked), "()")
        if place == -1:
            return None
        if place is not None:
            return of_two(
                EXPRESSION_SORTS[signs[place]], expected_expression(signs[:place], names),
                expected_expression(signs[place + 1:], names))
    if len(signs) == 1 and signs[0] in ("same", "all", "none"):
        return (signs[0],), 0
    if len(signs) == 1 and signs[0] in names:
        return ("name", signs[0]), 0
    if signs and signs[0] in ("~", "^"):
        inner = expected_expression(signs[1:], names)
        return inner and ((EXPRESSION_SORTS[signs[0]], inner[0]), inner[1] + 1)
    if signs and (signs[0], signs[-1]) == ("(", ")"):
        inner = expected_expression(signs[1:-1], names)
        return inner and (inner[0], inner[1] + 1)
    return None


def of_two(sort, left, right):
    return left and right and ((sort, left[0], right[0]), max(left[1], right[1]))


def expected_saying(signs, names):
    for asked in ("or", "and"):
        place = last_place(signs, [asked], "[]")
        if place == -1:
            return None
        if place is not None:
            return of_two(asked, expected_saying(signs[:place], names), expected_saying(signs[place + 1:], names))
    if signs and signs[0] == "not":
        inner = expected_saying(signs[1:], names)
        return inner and (("not", inner[0]), inner[1] + 1)
    if signs and (signs[0], signs[-1]) == ("[", "]"):
        inner = expected_saying(signs[1:-1], names)
        return inner and (inner[0], inner[1] + 1)
    return expected_fact(signs, names)


def expected_fact(signs, names):
    for sign, sort in (("in", "in"), ("=", "equal")):
        if sign in signs:
            place = signs.index(sign)
            return of_two(
                sort, expected_expression(signs[:place], names), expected_expression(signs[place + 1:], names))
    ahead = 1 if signs and signs[0] == "each" else 0
    word = "".join(signs[:ahead + 1])
    if word in ("some", "no"):
        inner = expected_expression(signs[1:], names)
        return inner and ((word, inner[0]), inner[1])
    if word in ("least", "most", "eachleast", "eachmost"):
        number = signs[ahead + 1:ahead + 2]
        if number and re.fullmatch("0|[1-9][0-9]?", number[0]):
            inner = expected_expression(signs[ahead + 2:], names)
            return inner and ((word, int(number[0]), inner[0]), inner[1])
    return None


def expected(text, words=WORDS):
    """The saying of a text, or None where it is to be refused."""
    if not re.fullmatch(r"[-a-z0-9+&.~^()\[\]= ]*", text):
        return None
    answer = expected_saying(re.findall(r"[a-z]+|[0-9]+|[^ ]", text), words[0] + words[1])
    return answer[0] if answer and answer[1] <= 20 else None


def set_close(signs):
    """The signs with a blank just where one must stand."""
    text = ""
    for sign in signs:
        must_part = re.search("[a-z][a-z]|[0-9][0-9]", text[-1:] + sign[:1])
        text += " " + sign if must_part else sign
    return text


class Case(unittest.TestCase):
    def check(self, text, saying):
        answer = read_saying(WORDS, text)
        self.assertEqual(answer, saying, text)
        self.check_kinds(answer)

    def check_read(self, text):
        self.assertIsNotNone(expected(text), text)
        self.check(text, expected(text))

    def check_kinds(self, part):
        self.assertIn(type(part), (tuple, str, int))
        if type(part) is tuple:
            for inner in part:
                self.check_kinds(inner)

    def check_refused(self, text, words=WORDS):
        with self.assertRaises(NoText, msg=repr(text)) as taken:
            read_saying(words, text)
        self.assertIsNone(taken.exception.row, text)

    def check_as_expected(self, text, words=WORDS):
        saying = expected(text, words)
        if saying is None:
            self.check_refused(text, words)
        else:
            self.assertEqual(read_saying(words, text), saying, text)

    def check_expression(self, text, expression):
        self.check("some " + text, ("some", expression))
        self.check("no " + text, ("no", expression))
        self.check("least 3 " + text, ("least", 3, expression))
        self.check("most 3 " + text, ("most", 3, expression))
        self.check("each least 3 " + text, ("eachleast", 3, expression))
        self.check("each most 3 " + text, ("eachmost", 3, expression))
        for other in ("c", text):
            tree = C if other == "c" else expression
            self.check(f"{text} in {other}", ("in", expression, tree))
            self.check(f"{other} in {text}", ("in", tree, expression))
            self.check(f"{text} = {other}", ("equal", expression, tree))
            self.check(f"{other} = {text}", ("equal", tree, expression))


class Expressions(Case):
    def test_atoms(self):
        self.check_expression("a", A)
        self.check_expression("k", K)
        self.check_expression("likes", LIKES)
        self.check_expression("same", ("same",))
        self.check_expression("all", ("all",))
        self.check_expression("none", ("none",))
        self.check_expression("~a", ("turned", A))
        self.check_expression("^a", ("closed", A))
        self.check_expression("(a)", A)
        self.check_expression("~^~a", ("turned", ("closed", ("turned", A))))
        self.check_expression("^(~(all))", ("closed", ("turned", ("all",))))

    def test_signs_of_two(self):
        self.check_expression("a + b", ("plus", A, B))
        self.check_expression("a - b", ("less", A, B))
        self.check_expression("a & b", ("both", A, B))
        self.check_expression("a . b", ("joined", A, B))

    def test_taken_from_the_left(self):
        for one, other in ("++", "--", "+-", "-+", "&&", ".."):
            sorts = EXPRESSION_SORTS
            self.check_expression(f"a {one} b {other} c", (sorts[other], (sorts[one], A, B), C))
            self.check_expression(f"a {one} (b {other} c)", (sorts[one], A, (sorts[other], B, C)))
            self.check_expression(
                f"a {one} b {other} c {one} k", (sorts[one], (sorts[other], (sorts[one], A, B), C), K))

    def test_which_binds_more(self):
        for loose, firm in ("+&", "-&", "+.", "-.", "&."):
            outer, inner = EXPRESSION_SORTS[loose], EXPRESSION_SORTS[firm]
            self.check_expression(f"a {loose} b {firm} c", (outer, A, (inner, B, C)))
            self.check_expression(f"a {firm} b {loose} c", (outer, (inner, A, B), C))
            self.check_expression(f"(a {loose} b) {firm} c", (inner, (outer, A, B), C))
            self.check_expression(f"a {firm} (b {loose} c)", (inner, A, (outer, B, C)))
        self.check_expression(
            "a + b & c . k", ("plus", A, ("both", B, ("joined", C, K))))
        self.check_expression(
            "a . b & c + k", ("plus", ("both", ("joined", A, B), C), K))

    def test_turned_and_closed_bind_most(self):
        for one, sort in (("~", "turned"), ("^", "closed")):
            for two, outer in (("+", "plus"), ("-", "less"), ("&", "both"), (".", "joined")):
                self.check_expression(f"{one}a {two} b", (outer, (sort, A), B))
                self.check_expression(f"a {two} {one}b", (outer, A, (sort, B)))
                self.check_expression(f"{one}(a {two} b)", (sort, (outer, A, B)))

    def test_all_rows_of_signs(self):
        for length in range(6):
            for signs in itertools.product(["a", "b", "~", "+", "&", ".", "(", ")"], repeat=length):
                self.check_as_expected("some " + " ".join(signs))
        for signs in itertools.product(["a", "~", "+", "-", "&", "."], repeat=6):
            self.check_as_expected("some " + " ".join(signs))

    def test_all_rows_of_signs_with_brackets(self):
        for length in (5, 6, 7):
            for signs in itertools.product(["a", "-", "^", "(", ")"], repeat=length):
                self.check_as_expected("all in " + "".join(signs))


class Sayings(Case):
    def test_each_sort_of_fact(self):
        self.check("some a", ("some", A))
        self.check("no a", ("no", A))
        self.check("least 2 a", ("least", 2, A))
        self.check("most 2 a", ("most", 2, A))
        self.check("each least 2 a", ("eachleast", 2, A))
        self.check("each most 2 a", ("eachmost", 2, A))
        self.check("a in b", ("in", A, B))
        self.check("a = b", ("equal", A, B))

    def test_and_or_not_and_brackets(self):
        a, b, c = ("some", A), ("no", B), ("in", A, C)
        self.check("some a and no b", ("and", a, b))
        self.check("some a or no b", ("or", a, b))
        self.check("some a or no b or a in c", ("or", ("or", a, b), c))
        self.check("some a and no b and a in c", ("and", ("and", a, b), c))
        self.check("some a or no b and a in c", ("or", a, ("and", b, c)))
        self.check("some a and no b or a in c", ("or", ("and", a, b), c))
        self.check("some a and [no b or a in c]", ("and", a, ("or", b, c)))
        self.check("[some a or no b] and a in c", ("and", ("or", a, b), c))
        self.check("some a or [no b or a in c]", ("or", a, ("or", b, c)))
        self.check("some a and [no b and a in c]", ("and", a, ("and", b, c)))
        self.check("not some a", ("not", a))
        self.check("not not some a", ("not", ("not", a)))
        self.check("not some a and no b", ("and", ("not", a), b))
        self.check("not some a or no b", ("or", ("not", a), b))
        self.check("some a and not no b or not a in c", ("or", ("and", a, ("not", b)), ("not", c)))
        self.check("not [some a and no b]", ("not", ("and", a, b)))
        self.check("not [some a or no b] and a in c", ("and", ("not", ("or", a, b)), c))
        self.check("[some a]", a)
        self.check("[[not [some a]]]", ("not", a))
        self.check("not a in c", ("not", c))

    def test_all_rows_of_facts_and_words(self):
        for length in range(7):
            for signs in itertools.product(["some a", "and", "or", "not", "[", "]"], repeat=length):
                self.check_as_expected(" ".join(signs))
        for signs in itertools.product(["a = b", "or", "not", "[", "]"], repeat=7):
            self.check_as_expected(" ".join(signs))

    def test_all_short_rows_of_all_signs(self):
        signs = TAKEN + ["a", "k", "x", "0", "7", "12", "+", "-", "&", ".", "~", "^", "(", ")", "[", "]", "="]
        for length in range(4):
            for row in itertools.product(signs, repeat=length):
                self.check_as_expected(" ".join(row))

    def test_each_sign_left_out_put_in_or_changed(self):
        every = TAKEN + ["a", "x", "0", "12", "100", "+", "-", "&", ".", "~", "^", "(", ")", "[", "]", "="]
        texts = [
            "not [ some a + b or no ~ ( c - a ) ]", "least 2 a . b & c and each most 0 ^ a", "a in b or b = all - none",
            "each least 10 same . k and [ [ not most 3 ( a ) ] ]",
        ]
        for text in texts:
            signs = text.split(" ")
            self.assertIsNotNone(expected(text))
            for place in range(len(signs) + 1):
                self.check_as_expected(" ".join(signs[:place] + signs[place + 1:]))
                self.check_as_expected(" ".join(signs[:place]))
                self.check_as_expected(" ".join(signs[place:]))
                for sign in every:
                    self.check_as_expected(" ".join(signs[:place] + [sign] + signs[place:]))
                    self.check_as_expected(" ".join(signs[:place] + [sign] + signs[place + 1:]))


class Blanks(Case):
    TEXTS = [
        "not [ some a + b or no ~ ( c - a ) ]", "least 2 a . b & c and each most 0 ^ a", "a in b or b = all - none",
        "each least 10 same", "a = b", "most 12 ( likes )",
    ]

    def test_ahead_between_and_behind(self):
        for text in self.TEXTS:
            saying = expected(text)
            for number in (1, 2, 3, 7):
                blanks = " " * number
                self.check(text.replace(" ", blanks), saying)
                self.check(blanks + text, saying)
                self.check(text + blanks, saying)
                self.check(blanks + text.replace(" ", blanks) + blanks, saying)

    def test_none_where_none_need_be(self):
        for text in self.TEXTS:
            self.check(set_close(text.split(" ")), expected(text))
        self.check("not[some a+b or no~(c-a)]", expected(self.TEXTS[0]))
        self.check("least2a.b&c and each most0^a", ("and", ("least", 2, ("both", ("joined", A, B), C)),
                                                    ("eachmost", 0, ("closed", A))))
        self.check("a=b", ("equal", A, B))
        self.check("a in(b)", ("in", A, B))
        self.check("(a)in b", ("in", A, B))
        self.check("[some a]or[no b]and not[a=b]or some~a", expected("[some a] or [no b] and not [a=b] or some ~a"))
        self.check("each least2likes", ("eachleast", 2, LIKES))

    def test_between_letters_and_letters_one_must_stand(self):
        for text in ("somea", "noa", "notsome a", "eachleast 2 a", "some aand no b", "some a andno b", "some a orno b",
                     "some aor no b", "ain b", "a inb", "eachmost2a", "some someall", "not not not notsome a"):
            self.check_refused(text)

    def test_a_run_of_letters_is_one_name(self):
        words = (("a", "ab"), ("somea", "inb", "nota"))
        self.assertEqual(read_saying(words, "some ab"), ("some", ("name", "ab")))
        self.assertEqual(read_saying(words, "some somea"), ("some", ("name", "somea")))
        self.assertEqual(read_saying(words, "inb in nota"), ("in", ("name", "inb"), ("name", "nota")))
        self.check_refused("some a b", words)
        self.check_refused("somea", words)
        self.check_refused("nota", words)

    def test_between_figures_and_figures_one_must_stand(self):
        self.check("least 12 a", ("least", 12, A))
        self.check_refused("least 1 2 a")
        self.check_refused("least 1 2a")
        self.check_refused("least 0 0 a")

    def test_other_signs_are_no_blanks(self):
        for sign in "\t\n\r\v\f\x00\x1c\x1f_,;":
            for text in (f"some{sign}a", f"{sign}some a", f"some a{sign}", f"some {sign} a", f"some a {sign}+ b",
                         f"least 2{sign}a", f"a{sign}in b", sign):
                self.check_refused(text)

    def test_each_sign_at_each_place(self):
        for text in ("not [ some a+ b ] or a=c", "least 10 ~(a)&^b", "a in b . c - all"):
            for number in range(128):
                sign = chr(number)
                for place in range(len(text) + 1):
                    self.check_as_expected(text[:place] + sign + text[place:])
                    self.check_as_expected(text[:place] + sign + text[place + 1:])

    def test_four_thousand_signs(self):
        text = "some" + " " * 3995 + "a"
        self.assertEqual(len(text), 4000)
        self.check(text, ("some", A))
        self.check("some a".ljust(4000), ("some", A))
        self.check("some a".rjust(4000), ("some", A))
        self.check_refused(" " * 4000)
        for sign in "([~^+&.=a0":
            self.check_refused(sign * 4000)
        self.check_refused("not " * 1000)


class Limits(Case):
    WORDS_AHEAD = [("least", "least"), ("most", "most"), ("each least", "eachleast"), ("each most", "eachmost")]

    def test_one_and_two_figures(self):
        for word, sort in self.WORDS_AHEAD:
            for limit in range(100):
                self.check(f"{word} {limit} a", (sort, limit, A))
                self.check(f"{word}{limit}a", (sort, limit, A))

    def test_others_are_refused(self):
        figures = [f"0{limit}" for limit in range(100)] + [f"00{limit}" for limit in range(10)]
        figures += ["00", "000", "100", "101", "999", "1000", "0100", "12345678901234567890"]
        figures += ["-1", "+1", "1.", "1.0", "~1", "(1)", "[1]", "a", "one", "", "1_0", "0x1", "1e1", "1 1"]
        for word, sort in self.WORDS_AHEAD:
            for wrong in figures:
                self.check_refused(f"{word} {wrong} a")

    def test_where_no_limit_belongs(self):
        for text in ("some 1 a", "no 1 a", "1 a", "1", "a 1", "some a 1", "a in 1", "a = 1", "each 1 a", "each some a",
                     "each no a", "each a", "each each least 1 a", "each not least 1 a", "least a", "most a",
                     "each least a", "least 1", "each most 1", "least", "each", "least each 1 a", "least 1 some a"):
            self.check_refused(text)


class Within(Case):
    def test_twenty_of_each_read_and_twenty_one_refused(self):
        for ahead, behind in (("~", ""), ("^", ""), ("(", ")"), ("~ ", ""), ("( ", " )")):
            for number in (1, 2, 19, 20):
                for text in ROUND_EXPRESSIONS:
                    self.check_read(text.replace("#", ahead * number + "a" + behind * number))
            for number in (21, 22, 30, 100):
                for text in ROUND_EXPRESSIONS:
                    self.check_refused(text.replace("#", ahead * number + "a" + behind * number))
        for ahead, behind in (("[", "]"), ("not ", ""), (" [ ", " ] ")):
            for number in (1, 2, 19, 20):
                for text in ("#", "# and some a", "some a or #"):
                    self.check_read(text.replace("#", ahead * number + "no b" + behind * number))
            for number in (21, 22, 30, 100):
                for text in ("#", "# and some a", "some a or #"):
                    self.check_refused(text.replace("#", ahead * number + "no b" + behind * number))

    def test_written_out(self):
        tree = A
        for place in range(20):
            tree = ("turned", tree)
        self.check("some " + "~" * 20 + "a", ("some", tree))
        self.check("some " + "(" * 20 + "a" + ")" * 20, ("some", A))
        self.check("[" * 20 + "some a" + "]" * 20, ("some", A))
        saying = ("some", A)
        for place in range(20):
            saying = ("not", saying)
        self.check("not " * 20 + "some a", saying)

    def test_counted_together(self):
        sayings = [("not ", ""), ("[", "]")]
        expressions = [("~", ""), ("^", ""), ("(", ")")]
        for outer, inner in itertools.product(sayings, expressions):
            for first in range(22):
                for second in (19 - first, 20 - first, 21 - first):
                    if second >= 0:
                        fact = "b in " + inner[0] * second + "a" + inner[1] * second
                        text = outer[0] * first + fact + outer[1] * first
                        self.assertEqual(expected(text) is None, first + second > 20)
                        self.check_as_expected(text)
        for one, other in itertools.permutations(expressions, 2):
            self.check_pair("some ", one, other, "a")
        for one, other in itertools.permutations(sayings, 2):
            self.check_pair("", one, other, "some a")

    def check_pair(self, ahead, one, other, middle):
        for first in range(22):
            for second in (20 - first, 21 - first):
                if second >= 0:
                    inner = other[0] * second + middle + other[1] * second
                    text = ahead + one[0] * first + inner + one[1] * first
                    self.assertEqual(expected(text) is None, first + second > 20)
                    self.check_as_expected(text)

    def test_side_by_side_is_not_within(self):
        atoms = ["~a", "^a", "(a)", "~^(a)"]
        for sign in "+-&.":
            for atom in atoms:
                self.check_read("some " + sign.join([atom] * 25))
        for unit in ("not some a", "[some a]", "not [no ~a]", "a = ~b"):
            for word in (" and ", " or "):
                self.check_read(word.join([unit] * 25))

    def test_twenty_side_by_side_with_twenty(self):
        deep = "(" * 20 + "a" + ")" * 20
        turned = "~" * 20 + "a"
        for sign in ("+", "-", "&", "."):
            self.check_read(f"some {deep} {sign} {turned} {sign} {deep}")
            self.check_refused(f"some {deep} {sign} ~{turned}")
            self.check_refused(f"some ({deep}) {sign} {turned}")
        for sign in ("in", "="):
            self.check_read(f"{deep} {sign} {turned}")
            self.check_refused(f"{deep} {sign} ~{turned}")
            self.check_refused(f"({deep}) {sign} {turned}")

    def test_what_stands_behind_the_atom_or_unit_is_not_within(self):
        deep = "(" * 20 + "a" + ")" * 20
        for text in (f"some ~a . {deep}", f"some ^a & {deep}", f"some (a) + {deep}", f"not some a and some {deep}",
                     f"[some a] or some {deep}", f"not [not some a] and some {deep}"):
            self.check_read(text)
        for text in (f"some ~{deep}", f"some (a + {deep})", f"not some {deep}", f"[some a or some {deep}]",
                     f"not a in {deep}", f"not {deep} in a", f"not each most 2 {deep}", f"[{deep} = a]"):
            self.check_refused(text)


class Refused(Case):
    def test_what_is_no_text(self):
        for wrong in NO_TEXTS:
            self.check_refused(wrong)
            self.check_refused(wrong, ((), ()))

    def test_no_signs_at_all(self):
        for text in ("", " ", "  ", "        "):
            self.check_refused(text)
            self.check_refused(text, ((), ()))

    def test_names_that_are_none_of_the_words(self):
        for name in ("d", "x", "aa", "like", "likess", "ka", "name", "plus", "equal", "every", "abcdefghi", "z" * 50):
            for text in ("some #", "# in a", "a = #", "least 1 ~#", "some a or no #", "no (a + #)", "#"):
                self.check_refused(text.replace("#", name))

    def test_names_hang_on_the_words(self):
        self.assertEqual(read_saying((("x",), ()), "some x"), ("some", ("name", "x")))
        self.assertEqual(read_saying(((), ("x",)), "some x"), ("some", ("name", "x")))
        four = (("e", "f", "g", "h"), ("p", "q", "r", "t"))
        for name in four[0] + four[1]:
            self.assertEqual(read_saying(four, f"no ~{name}"), ("no", ("turned", ("name", name))))
        self.check_refused("some a", four)
        self.check_refused("some x", ((), ()))
        self.assertEqual(read_saying(((), ()), "all = same"), ("equal", ("all",), ("same",)))
        self.assertEqual(read_saying(WORDS, "some a"), ("some", A))
        self.check_refused("some x")

    def test_taken_words_are_no_names(self):
        for word in TAKEN:
            if word not in ("same", "all", "none"):
                for text in (f"some {word}", f"{word} in a", f"a = {word}", f"~{word} in a", f"({word}) in a"):
                    self.check_refused(text)

    def test_great_letters_and_other_signs(self):
        for text in ("Some a", "SOME a", "some A", "some a AND some b", "some a, some b", "some a; some b", "some a!",
                     "some {a}", "some a * b", "some a | b", "some a == b", "a != b", "a < b", "a <= b", "some 'a'",
                     "some a/b", "some a:b", "some a_b", "some \\a", "some a#", "some a\n", "some $a", "some a?b",
                     "some a\u00a0", "\u00e4 in a", "some a\u0661", "least \u0661 a", "least \u00b2 a"):
            self.check_refused(text)

    def test_what_is_no_saying(self):
        for text in ("a", "~a", "(a)", "a + b", "some", "no", "in", "=", "a in", "in a", "a =", "= a", "a in b in c",
                     "a = b = c", "a in b = c", "a b", "a a in b", "some a b", "some a some b", "some a no b",
                     "some a and", "and some a", "some a or", "or some a", "some a and or some b", "some a not no b",
                     "not", "not not", "not a", "[", "]", "[]", "[a]", "[some a", "some a]", "(some a)", "some [a]",
                     "[some a)", "some (a]", "some a + [b]", "[a] in b", "not (some a)", "some ()", "some (a",
                     "some a)", "some )a(", "some a ~", "some a ^", "some a~b", "some ~", "some + a", "some a +",
                     "some a + + b", "some a & - b", "some a . . b", "some - a", "some . a", "some & a", "some ~ + a",
                     "some some a", "some no a", "no some a", "some not a", "not some not a", "a not in b",
                     "a in not b", "[some a] some b", "[some a] [some b]", "some a [some b]", "[some a] in b",
                     "[some a] + b", "kind a", "tie a", "say some a", "kind", "some a = b", "no a in b",
                     "least 1 a in b", "some a and b", "some a or b", "a in b and c", "each least 1 a = b", "((a) in b)",
                     "a (in) b"):
            self.assertIsNone(expected(text), text)
            self.check_refused(text)

    def test_a_text_that_ends_too_soon_whatever_the_names(self):
        for letter in "abcdefghijklmnopqrstuvwxyz":
            words = ((), (letter,))
            self.assertEqual(read_saying(words, f"some {letter}"), ("some", ("name", letter)))
            for text in ("some", "no ~", "least 1", "each most 2", f"{letter} in", f"{letter} =", f"some {letter} +",
                         f"some ({letter}", f"some {letter} and no", "not", "["):
                self.check_refused(text, words)

    def test_nothing_is_kept_from_what_was_refused(self):
        for text in ("[[[some a", "some ((((a", "not not not", "some " + "~" * 21 + "a"):
            for place in range(3):
                self.check_refused(text)
                self.check("some a", ("some", A))
                self.check("[" * 20 + "some a" + "]" * 20, ("some", A))


if __name__ == "__main__":
    unittest.main()
