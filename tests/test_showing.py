"""Promise 11, with 10: expressions and sayings shown as texts, with brackets just where the document puts them."""

import random
import re
import unittest

import model
from worldfind.errors import NoText
from worldfind.reading import read_saying
from worldfind.showing import shown_expression, shown_saying

WORDS = (("k",), ("a", "b", "likes"))
A, B, C = ("name", "a"), ("name", "b"), ("name", "likes")
SIGNS = {"plus": "+", "less": "-", "both": "&", "joined": ".", "turned": "~", "closed": "^"}
# The document's row on brackets: beside each sign, on its left and on its right, what stands in brackets.
LEFT = {"plus": [], "less": [], "both": ["plus", "less"], "joined": ["plus", "less", "both"]}
RIGHT = {
    "plus": ["plus", "less"], "less": ["plus", "less"], "both": ["plus", "less", "both"],
    "joined": ["plus", "less", "both", "joined"],
}
INNER = {
    "name": (("name", "likes"), "likes"), "same": (("same",), "same"), "all": (("all",), "all"),
    "none": (("none",), "none"), "turned": (("turned", A), "~a"), "closed": (("closed", A), "^a"),
    "plus": (("plus", A, B), "a + b"), "less": (("less", A, B), "a - b"), "both": (("both", A, B), "a & b"),
    "joined": (("joined", A, B), "a . b"),
}
SAYINGS = {
    "in": (("in", A, B), "a in b"), "equal": (("equal", A, B), "a = b"), "some": (("some", A), "some a"),
    "no": (("no", A), "no a"), "least": (("least", 2, A), "least 2 a"), "most": (("most", 0, A), "most 0 a"),
    "eachleast": (("eachleast", 12, A), "each least 12 a"), "eachmost": (("eachmost", 99, A), "each most 99 a"),
    "not": (("not", ("some", A)), "not some a"), "and": (("and", ("some", A), ("no", B)), "some a and no b"),
    "or": (("or", ("some", A), ("no", B)), "some a or no b"),
}
SAYING_LEFT = {"and": ["or"], "or": []}
SAYING_RIGHT = {"and": ["or", "and"], "or": ["or"]}


def round_if(text, needed, brackets):
    return brackets[0] + text + brackets[1] if needed else text


class Case(unittest.TestCase):
    def check_expression(self, expression, text):
        answer = shown_expression(expression)
        self.assertIs(type(answer), str)
        self.assertEqual(answer, text)
        self.check_saying(("some", expression), "some " + text)

    def check_saying(self, saying, text):
        answer = shown_saying(saying)
        self.assertIs(type(answer), str)
        self.assertEqual(answer, text)
        self.assertEqual(read_saying(WORDS, answer), saying)


class Expressions(Case):
    def test_each_sort(self):
        for expression, text in INNER.values():
            self.check_expression(expression, text)
        self.check_expression(("name", "k"), "k")

    def test_within_turned_and_closed_all_but_atoms(self):
        for sort in ("turned", "closed"):
            for inner, (expression, text) in INNER.items():
                needed = inner in ("plus", "less", "both", "joined")
                self.check_expression((sort, expression), SIGNS[sort] + round_if(text, needed, "()"))
        self.check_expression(("turned", ("closed", ("turned", ("turned", A)))), "~^~~a")

    def test_left_of_a_sign_of_two(self):
        for sort, needed in LEFT.items():
            for inner, (expression, text) in INNER.items():
                left = round_if(text, inner in needed, "()")
                self.check_expression((sort, expression, C), f"{left} {SIGNS[sort]} likes")

    def test_right_of_a_sign_of_two(self):
        for sort, needed in RIGHT.items():
            for inner, (expression, text) in INNER.items():
                right = round_if(text, inner in needed, "()")
                self.check_expression((sort, C, expression), f"likes {SIGNS[sort]} {right}")

    def test_both_sides_at_once(self):
        for sort in LEFT:
            for first, (one, one_text) in INNER.items():
                for second, (other, other_text) in INNER.items():
                    left = round_if(one_text, first in LEFT[sort], "()")
                    right = round_if(other_text, second in RIGHT[sort], "()")
                    self.check_expression((sort, one, other), f"{left} {SIGNS[sort]} {right}")

    def test_written_out(self):
        self.check_expression(("plus", ("less", A, B), C), "a - b + likes")
        self.check_expression(("less", A, ("plus", B, C)), "a - (b + likes)")
        self.check_expression(("less", A, ("less", B, C)), "a - (b - likes)")
        self.check_expression(("plus", A, ("both", B, ("joined", C, A))), "a + b & likes . a")
        self.check_expression(("joined", ("both", ("plus", A, B), C), A), "((a + b) & likes) . a")
        self.check_expression(("joined", A, ("joined", B, C)), "a . (b . likes)")
        self.check_expression(("turned", ("joined", ("turned", A), B)), "~(~a . b)")
        self.check_expression(("joined", ("turned", ("plus", A, B)), ("closed", C)), "~(a + b) . ^likes")


class Sayings(Case):
    def test_each_sort(self):
        for saying, text in SAYINGS.values():
            self.check_saying(saying, text)

    def test_each_limit(self):
        words = {"least": "least", "most": "most", "eachleast": "each least", "eachmost": "each most"}
        for sort, word in words.items():
            for limit in range(100):
                self.check_saying((sort, limit, A), f"{word} {limit} a")

    def test_expressions_in_a_fact_stand_without_brackets(self):
        for expression, text in INNER.values():
            self.check_saying(("some", expression), f"some {text}")
            self.check_saying(("no", expression), f"no {text}")
            self.check_saying(("least", 1, expression), f"least 1 {text}")
            self.check_saying(("most", 1, expression), f"most 1 {text}")
            self.check_saying(("eachleast", 1, expression), f"each least 1 {text}")
            self.check_saying(("eachmost", 1, expression), f"each most 1 {text}")
            for other, other_text in INNER.values():
                self.check_saying(("in", expression, other), f"{text} in {other_text}")
                self.check_saying(("equal", expression, other), f"{text} = {other_text}")

    def test_within_not(self):
        for inner, (saying, text) in SAYINGS.items():
            shown = round_if(text, inner in ("and", "or"), "[]")
            self.check_saying(("not", saying), f"not {shown}")

    def test_left_and_right_of_and_and_or(self):
        for sort in ("and", "or"):
            for first, (one, one_text) in SAYINGS.items():
                for second, (other, other_text) in SAYINGS.items():
                    left = round_if(one_text, first in SAYING_LEFT[sort], "[]")
                    right = round_if(other_text, second in SAYING_RIGHT[sort], "[]")
                    self.check_saying((sort, one, other), f"{left} {sort} {right}")

    def test_written_out(self):
        a, b, c = ("some", A), ("no", B), ("in", A, B)
        self.check_saying(("or", ("or", a, b), c), "some a or no b or a in b")
        self.check_saying(("or", a, ("or", b, c)), "some a or [no b or a in b]")
        self.check_saying(("and", a, ("and", b, c)), "some a and [no b and a in b]")
        self.check_saying(("or", ("and", a, b), ("and", b, c)), "some a and no b or no b and a in b")
        self.check_saying(("and", ("or", a, b), ("not", ("not", c))), "[some a or no b] and not not a in b")
        self.check_saying(("not", ("and", ("not", ("or", a, b)), c)), "not [not [some a or no b] and a in b]")


class ReadAgain(unittest.TestCase):
    def check_brackets_are_needed(self, text, saying):
        """Without any one pair of its brackets the text is read as another saying, or not at all."""
        for place, sign in enumerate(text):
            if sign in "([":
                other = self.partner(text, place)
                less = text[:place] + text[place + 1:other] + text[other + 1:]
                try:
                    self.assertNotEqual(read_saying(WORDS, less), saying, (text, less))
                except NoText:
                    pass

    def partner(self, text, place):
        depth = 0
        for other in range(place, len(text)):
            depth += (text[other] in "([") - (text[other] in ")]")
            if depth == 0:
                return other
        return self.fail(text)

    def test_shown_and_read_as_the_same(self):
        chance = random.Random(21)
        for depth in (0, 1, 1, 2, 2, 3, 3, 4, 4, 5):
            for place in range(150):
                saying = model.some_saying(WORDS, depth, chance)
                text = shown_saying(saying)
                self.assertEqual(read_saying(WORDS, text), saying, text)
                self.check_brackets_are_needed(text, saying)

    def test_deep_expressions(self):
        chance = random.Random(22)
        for depth in (2, 3, 4, 5, 6):
            for place in range(150):
                expression = model.some_expression(WORDS, depth, chance)
                text = shown_expression(expression)
                self.assertEqual(read_saying(WORDS, "no " + text), ("no", expression), text)
                self.check_brackets_are_needed("no " + text, ("no", expression))

    def test_just_one_blank_between(self):
        chance = random.Random(23)
        for place in range(300):
            text = shown_saying(model.some_saying(WORDS, 4, chance))
            signs = re.findall(r"[a-z]+|[0-9]+|[^ ]", text)
            expected = " ".join(signs)
            for sign in "~^([":
                expected = expected.replace(sign + " ", sign)
            for sign in ")]":
                expected = expected.replace(" " + sign, sign)
            self.assertEqual(text, expected)

    def test_twenty_within_one_another_and_beyond(self):
        turned, right, denied = A, A, ("some", A)
        for number in range(1, 29):
            turned, right, denied = ("turned", turned), ("less", A, right), ("not", denied)
            shown = shown_expression(turned), shown_expression(right), shown_saying(denied)
            brackets = number - 1
            self.assertEqual(shown[0], "~" * number + "a")
            self.assertEqual(shown[1], "a - (" * brackets + "a - a" + ")" * brackets)
            self.assertEqual(shown[2], "not " * number + "some a")
            if number <= 20:
                self.assertEqual(read_saying(WORDS, "some " + shown[0]), ("some", turned))
                self.assertEqual(read_saying(WORDS, "some " + shown[1]), ("some", right))
                self.assertEqual(read_saying(WORDS, shown[2]), denied)

    def test_long_rows_from_the_left(self):
        for sort, sign in SIGNS.items():
            if sort in LEFT:
                left = A
                for number in range(1, 29):
                    left = (sort, left, B)
                    text = "a" + f" {sign} b" * number
                    self.assertEqual(shown_expression(left), text)
                    self.assertEqual(read_saying(WORDS, "some " + text), ("some", left))
        for sort in ("and", "or"):
            left = ("some", A)
            for number in range(1, 29):
                left = (sort, left, ("no", B))
                text = "some a" + f" {sort} no b" * number
                self.assertEqual(shown_saying(left), text)
                self.assertEqual(read_saying(WORDS, text), left)


if __name__ == "__main__":
    unittest.main()
