"""Promises 23 and 25, with 2, 3 and 15: what follows from a theory, what matters in it, and two held against one
another."""

import random
import unittest

import model
from worldfind.errors import Crowded, NoNumber, NoSize, TooBig, Unlike
from worldfind.following import follows, matters, same_or_parted
from worldfind.papers import holds, theory_of
from worldfind.reading import read_saying

SIZES = range(5)
NO_SIZES = [-1, -2, 5, 6, -(10 ** 50), 10 ** 50, True, False, None, "0", "1", "", 0.0, 2.0, (), (1,), [], [2], {}]
NO_NUMBERS = [True, False, None, -1, -2, -(10 ** 50), 10 ** 50, 0.0, 1.0, "", "0", "1", (), (0,), [], [0], {}]
NONE = ((), ())
TIE = ((), ("r",))
TWO = ((), ("r", "s"))
BOTH = (("k", "l"), ("r",))
KIND = (("k", "l"), ())
NEVER, ALWAYS = ("some", ("none",)), ("no", ("none",))
NAMES = ("a", "b", "c", "d")
MORE = ("e", "f", "g", "h")
ALL_WORDS = [(NAMES[:kinds], MORE[:ties]) for kinds in range(5) for ties in range(5)]
# A theory, a saying, and the sizes at which it follows.
KNOWN = [
    (TIE, [], "no none", [0, 1, 2, 3, 4]),
    (TIE, [], "some none", []),
    (TIE, [], "no r", [0]),
    (TIE, [], "most 9 r", [0, 1, 2, 3]),
    (TIE, [], "least 2 same", [2, 3, 4]),
    (TIE, ["some r"], "some r", [0, 1, 2, 3, 4]),
    (TIE, ["some r", "no r"], "some none", [0, 1, 2, 3, 4]),
    (TIE, ["some r"], "some same", [0, 1, 2, 3, 4]),
    (TIE, ["some r"], "some r & same", [0, 1]),
    (TIE, ["r in ~r"], "r = ~r", [0, 1, 2, 3, 4]),
    (TIE, ["r . r in r"], "^r = r", [0, 1, 2, 3, 4]),
    (TIE, ["^r = r"], "r . r in r", [0, 1, 2, 3, 4]),
    (TIE, ["r . r in r", "no r & same"], "no r & ~r", [0, 1, 2, 3, 4]),
    (TIE, ["r . r in r"], "no r & ~r", [0]),
    (TIE, ["no r & same"], "no r & ~r", [0, 1]),
    (TIE, ["no r & ~r"], "no r & same", [0, 1, 2, 3, 4]),
    (TIE, ["each least 1 r", "each most 1 r"], "least 4 r", [4]),
    (TIE, ["each least 1 r", "each most 1 r"], "most 2 r", [0, 1, 2]),
    (TIE, ["each least 1 r", "each most 1 ~r"], "each most 1 r", [0, 1, 2, 3, 4]),
    (TIE, ["^r = all"], "each least 1 r", [0, 1, 2, 3, 4]),
    (TIE, ["each least 1 r"], "some ^r & same", [1, 2, 3, 4]),
    (TIE, ["each least 1 r", "no r & same", "no r & ~r"], "least 3 same", [1, 2, 3, 4]),
    (TWO, ["r . s = same"], "s . r = same", [0, 1, 2]),
    (TWO, ["r in s"], "^r in ^s", [0, 1, 2]),
    (TWO, ["^r in ^s"], "r in s", [0, 1]),
    (KIND, ["k in l"], "no k - l", [0, 1, 2, 3, 4]),
    (KIND, ["no k & l"], "k + l = same", [0]),
    (KIND, ["some k", "some l", "no k & l"], "least 2 same", [0, 1, 2, 3, 4]),
    (BOTH, ["r in k . all . l", "no k & l"], "no r . r", [0, 1, 2, 3]),
    (BOTH, ["r in k . all . l"], "no r . r", [0]),
    (NONE, ["least 3 same"], "most 15 all", [0, 1, 2, 3]),
]
# Two theories, and up to which sizes they say the same.
PAIRS = [
    (TIE, [], [], [0, 1, 2, 3, 4]),
    (TIE, ["some r"], ["some r"], [0, 1, 2, 3, 4]),
    (TIE, ["some r"], [], []),
    (TIE, ["no r"], [], [0]),
    (TIE, [], ["no r & same"], [0]),
    (TIE, ["r = ~r"], ["r in ~r"], [0, 1, 2, 3, 4]),
    (TIE, ["r = ~r"], ["~r in r", "no none"], [0, 1, 2, 3, 4]),
    (TIE, ["r . r in r"], ["^r in r"], [0, 1, 2, 3, 4]),
    (TIE, ["r . r in r", "no r & same"], ["^r = r", "no r & ~r"], [0, 1, 2, 3, 4]),
    (TIE, ["r = ~r"], ["no r - same"], [0, 1]),
    (TIE, ["r = ~r"], [], [0, 1]),
    (TIE, ["each least 1 r", "each most 1 r"], ["each least 1 r", "least 2 same or no r - all"], [0, 1]),
    (TIE, ["no ^r & same"], ["no r & same", "no r . r & same"], [0, 1, 2]),
    (TIE, ["no ^r & same"], ["no r & same", "no r . r & same", "no r . r . r & same"], [0, 1, 2, 3]),
    (TIE, ["some r", "no r"], ["some none"], [0, 1, 2, 3, 4]),
    (TIE, ["most 9 r"], [], [0, 1, 2, 3]),
    (TIE, [], ["most 3 same"], [0, 1, 2, 3]),
    (TWO, ["r in s", "s in r"], ["r = s"], [0, 1, 2]),
    (TWO, ["r . s in none"], ["s . r in none"], [0, 1]),
    (KIND, ["k in l"], ["no k - l", "k & l = k"], [0, 1, 2, 3, 4]),
    (KIND, ["k in l"], ["l in k"], [0]),
    (BOTH, ["r in k . all", "r in all . l"], ["r in k . all . l"], [0, 1, 2, 3]),
    (BOTH, ["r in k . all . l"], ["r in k . r . l", "k in l"], [0]),
    (NONE, ["least 3 same"], ["some same", "not most 2 same"], [0, 1, 2, 3, 4]),
    (NONE, ["most 3 same"], [], [0, 1, 2, 3]),
]
# Twelve sayings of which some are spare.
TWELVE = [
    "r . r in r", "no r & same", "no r & ~r", "some r", "least 1 r", "most 12 r", "^r = r", "r in all - same",
    "some same", "each most 3 r", "no r . ~r & none", "not same in r",
]


def sayings_from(words, texts):
    return [read_saying(words, text) for text in texts]


def theory_from(words, texts):
    return theory_of(words, sayings_from(words, texts))


def sizes_of(words, most_bits):
    return [size for size in SIZES if model.how_many_bits(words, size) <= most_bits]


class Case(unittest.TestCase):
    def check_told(self, theory, size, saying, answer):
        """What an answer of 23 tells, having been held against the model: 'world' or 'paper'."""
        self.assertTrue(model.is_told_of_following(theory, size, saying, answer), (theory, size, saying))
        if answer[0] == "paper":
            self.assertIs(holds((theory[0], theory[1] + (("not", saying),)), size, answer[1]), True)
        return answer[0]

    def check_refusals(self, call, sayings):
        """Of a call of a theory and a size: NoSize, then TooBig beyond sixteen bits with its field."""
        for words in ALL_WORDS:
            theory = theory_of(words, sayings)
            for size in NO_SIZES:
                with self.assertRaises(NoSize, msg=(words, size)):
                    call(theory, size)
            for size in SIZES:
                number = model.how_many_bits(words, size)
                if number > 16:
                    with self.assertRaises(TooBig, msg=(words, size)) as caught:
                        call(theory, size)
                    self.assertEqual((caught.exception.bits, type(caught.exception.bits)), (number, int))


class Follows(Case):
    def check_follows(self, theory, size, saying):
        before = repr((theory, saying))
        answer = follows(theory, size, saying)
        self.assertEqual(repr((theory, saying)), before)
        return self.check_told(theory, size, saying, answer)

    def test_known(self):
        for words, texts, text, sizes in KNOWN:
            theory = theory_from(words, texts)
            saying = read_saying(words, text)
            for size in sizes_of(words, 16):
                sort = self.check_follows(theory, size, saying)
                self.assertEqual(sort, "paper" if size in sizes else "world", (texts, text, size))

    def test_against_all_worlds_gone_through(self):
        chance = random.Random(91)
        sorts = []
        for words in (NONE, TIE, BOTH, TWO, (("k", "l", "m"), ())):
            for size in sizes_of(words, 9):
                worlds = model.all_worlds(words, size)
                for place in range(15):
                    sayings = [model.some_saying(words, 1, chance) for number in range(chance.randrange(4))]
                    theory = theory_of(words, sayings)
                    saying = model.some_saying(words, 1, chance)
                    parting = [world for world in worlds
                               if model.keeps_all(theory, world) and not model.is_kept(words, world, saying)]
                    sort = self.check_follows(theory, size, saying)
                    self.assertEqual(sort, "world" if parting else "paper", (theory, size, saying))
                    sorts.append(sort)
        self.assertGreater(sorts.count("world"), 50)
        self.assertGreater(sorts.count("paper"), 50)

    def test_by_chance_to_sixteen_bits(self):
        chance = random.Random(92)
        for words, size in ((TIE, 4), (BOTH, 3), (KIND, 4), ((("k",), ("r", "s")), 2)):
            for place in range(12):
                sayings = [model.some_saying(words, 1, chance) for number in range(chance.randrange(1, 12))]
                self.check_follows(theory_of(words, sayings), size, model.some_saying(words, 1, chance))

    def test_of_none_to_eleven_sayings(self):
        for number in range(12):
            for size in SIZES:
                theory = theory_of(TIE, [ALWAYS] * number)
                self.assertEqual(self.check_follows(theory, size, ALWAYS), "paper")
                self.assertEqual(self.check_follows(theory, size, NEVER), "world")
                if number:
                    theory = theory_of(TIE, [ALWAYS] * (number - 1) + [NEVER])
                    self.assertEqual(self.check_follows(theory, size, NEVER), "paper")

    def test_each_saying_of_a_theory_follows_from_it(self):
        for words, texts, text, sizes in KNOWN:
            theory = theory_from(words, texts)
            for saying in theory[1]:
                for size in sizes_of(words, 9):
                    self.assertEqual(self.check_follows(theory, size, saying), "paper")

    def test_twelve_sayings_are_refused(self):
        for saying in (ALWAYS, NEVER):
            for size in SIZES:
                with self.assertRaises(Crowded, msg=size):
                    follows(theory_of(TIE, [saying] * 12), size, saying)

    def test_refused_in_the_order_told(self):
        for sayings in ([], [NEVER], [ALWAYS] * 12):
            self.check_refusals(lambda theory, size: follows(theory, size, ALWAYS), sayings)

    def test_crowded_behind_the_bits(self):
        twelve = [ALWAYS] * 12
        with self.assertRaises(Crowded):
            follows(theory_of(BOTH, twelve), 3, ALWAYS)
        with self.assertRaises(TooBig) as caught:
            follows(theory_of(BOTH, twelve), 4, ALWAYS)
        self.assertEqual(caught.exception.bits, 24)
        with self.assertRaises(NoSize):
            follows(theory_of(BOTH, twelve), 5, ALWAYS)


class Matters(Case):
    def check_matters(self, theory, size, number):
        before = repr(theory)
        answer = matters(theory, size, number)
        self.assertEqual(repr(theory), before)
        words, sayings = theory
        others = (words, sayings[:number] + sayings[number + 1:])
        return self.check_told(others, size, sayings[number], answer)

    def test_known(self):
        theory = theory_from(TIE, ["r . r in r", "no r & same", "no r & ~r", "some r"])
        self.assertEqual([self.check_matters(theory, 4, number) for number in range(4)],
                         ["world", "paper", "paper", "world"])
        self.assertEqual([self.check_matters(theory, 1, number) for number in range(4)],
                         ["paper", "paper", "paper", "world"])
        self.assertEqual([self.check_matters(theory, 0, number) for number in range(4)],
                         ["paper", "paper", "paper", "world"])

    def test_a_saying_told_twice_is_spare_in_both_places(self):
        theory = theory_from(TIE, ["some r", "no r & same", "some r"])
        for size in SIZES:
            self.assertEqual(self.check_matters(theory, size, 0), "paper")
            self.assertEqual(self.check_matters(theory, size, 2), "paper")

    def test_against_all_worlds_gone_through(self):
        chance = random.Random(93)
        sorts = []
        for words in (NONE, TIE, BOTH, TWO, (("k", "l", "m"), ())):
            for size in sizes_of(words, 9):
                worlds = model.all_worlds(words, size)
                for place in range(6):
                    sayings = [model.some_saying(words, 1, chance) for number in range(chance.randrange(1, 4))]
                    theory = theory_of(words, sayings)
                    rows = [[model.is_kept(words, world, saying) for saying in sayings] for world in worlds]
                    for number in range(len(sayings)):
                        asked = [place != number for place in range(len(sayings))]
                        sort = self.check_matters(theory, size, number)
                        self.assertEqual(sort, "world" if asked in rows else "paper", (theory, size, number))
                        sorts.append(sort)
        self.assertGreater(sorts.count("world"), 50)
        self.assertGreater(sorts.count("paper"), 50)

    def test_of_twelve_sayings(self):
        theory = theory_from(TIE, TWELVE)
        for size in SIZES:
            sorts = [self.check_matters(theory, size, number) for number in range(12)]
            self.assertIn("paper", sorts)
        chosen = theory_of(TIE, [ALWAYS] * 11 + [("some", ("name", "r"))])
        for size in range(1, 5):
            sorts = [self.check_matters(chosen, size, number) for number in range(12)]
            self.assertEqual(sorts, ["paper"] * 11 + ["world"])

    def test_of_one_saying(self):
        for size in SIZES:
            self.assertEqual(self.check_matters(theory_of(TIE, [NEVER]), size, 0), "world")
            self.assertEqual(self.check_matters(theory_of(TIE, [ALWAYS]), size, 0), "paper")

    def test_no_number_ahead_of_all_else(self):
        for count in (0, 1, 2, 12):
            theory = theory_of(BOTH, [ALWAYS] * count)
            wrong = [number for number in NO_NUMBERS + [count, count + 1, 12, 13, -count]
                     if type(number) is not int or not 0 <= number < count]
            for number in wrong:
                for size in list(SIZES) + NO_SIZES:
                    with self.assertRaises(NoNumber, msg=(count, number, size)) as caught:
                        matters(theory, size, number)
                    self.assertIs(caught.exception.number, number)

    def test_no_size_and_too_big_behind_it(self):
        for count in (1, 2, 12):
            for number in (0, count - 1):
                self.check_refusals(lambda theory, size: matters(theory, size, number), [NEVER] * count)


class SameOrParted(Case):
    def check_two(self, one, other, most):
        before = repr((one, other))
        answer = same_or_parted(one, other, most)
        self.assertEqual(repr((one, other)), before)
        self.assertTrue(model.is_told_of_two(one, other, most, answer), (one, other, most))
        return answer[0]

    def test_known(self):
        for words, texts, other_texts, sizes in PAIRS:
            one, other = theory_from(words, texts), theory_from(words, other_texts)
            for most in sizes_of(words, 16):
                sort = "same" if most in sizes else "world"
                self.assertEqual(self.check_two(one, other, most), sort, (texts, other_texts, most))
                self.assertEqual(self.check_two(other, one, most), sort, (texts, other_texts, most))

    def test_either_side_may_be_kept(self):
        weak, strong = theory_from(TIE, ["some r"]), theory_from(TIE, ["some r", "r = ~r"])
        self.assertEqual(same_or_parted(weak, strong, 4)[2], 0)
        self.assertEqual(same_or_parted(strong, weak, 4)[2], 1)
        self.assertEqual(same_or_parted(weak, strong, 1)[0], "same")

    def test_against_all_worlds_gone_through(self):
        chance = random.Random(94)
        sorts = []
        for words, most in ((NONE, 4), (TIE, 3), (BOTH, 2), (KIND, 4), (TWO, 2)):
            worlds = [world for size in range(most + 1) for world in model.all_worlds(words, size)]
            for place in range(10):
                sayings = [model.some_saying(words, 1, chance) for number in range(3)]
                one = theory_of(words, sayings[:chance.randrange(3)])
                others = [theory_of(words, sayings[1:]), theory_of(words, list(one[1]) * 2),
                          theory_of(words, list(one[1])[::-1] + [ALWAYS])]
                for other in others:
                    is_same = all(model.keeps_all(one, world) == model.keeps_all(other, world) for world in worlds)
                    sort = self.check_two(one, other, most)
                    self.assertEqual(sort, "same" if is_same else "world", (one, other, most))
                    sorts.append(sort)
        self.assertGreater(sorts.count("world"), 20)
        self.assertGreater(sorts.count("same"), 50)

    def test_rows_of_papers_written_out(self):
        one, other = theory_of(TIE, [ALWAYS, ALWAYS]), theory_of(TIE, [ALWAYS])
        rows = [(size, side, number) for size in (0, 1) for side, number in ((0, 0), (0, 1), (1, 0))]
        sort, papers = same_or_parted(one, other, 1)
        self.assertEqual((sort, [row[:3] for row in papers]), ("same", rows))
        # Behind one saying of the other theory the "not" has the number 1, behind two 2.
        self.assertEqual([row[3] for row in papers], [("broken", 1), ("broken", 1), ("broken", 2)] * 2)
        self.assertEqual(same_or_parted(theory_of(TIE, []), theory_of(TIE, []), 4), ("same", []))

    def test_eleven_sayings(self):
        eleven = theory_of(TIE, [ALWAYS] * 11)
        self.assertEqual(self.check_two(eleven, eleven, 4), "same")
        self.assertEqual(self.check_two(eleven, theory_of(TIE, [ALWAYS] * 10 + [NEVER]), 4), "world")
        self.assertEqual(len(same_or_parted(eleven, theory_of(TIE, []), 2)[1]), 33)

    def test_unlike_words_ahead_of_all_else(self):
        unlike_words = [
            (TIE, NONE), (TIE, ((), ("s",))), (TIE, TWO), (TIE, (("r",), ())), (BOTH, TIE), (KIND, (("k",), ())),
            ((NAMES, MORE), (NAMES, MORE[:3])), ((("a",), ("b",)), (("b",), ("a",))),
        ]
        for words, other_words in unlike_words:
            for sayings in ([], [ALWAYS] * 12):
                one, other = theory_of(words, sayings), theory_of(other_words, sayings)
                for most in list(SIZES) + NO_SIZES:
                    with self.assertRaises(Unlike, msg=(words, other_words, most)):
                        same_or_parted(one, other, most)
                    with self.assertRaises(Unlike, msg=(words, other_words, most)):
                        same_or_parted(other, one, most)

    def test_no_size_and_too_big_behind_it(self):
        for sayings in ([], [NEVER], [ALWAYS] * 12):
            self.check_refusals(lambda theory, size: same_or_parted(theory, theory, size), sayings)
        # Of the greatest size, though a world of a lesser one parts them.
        one, other = theory_of(BOTH, [NEVER]), theory_of(BOTH, [])
        self.assertEqual(self.check_two(one, other, 3), "world")
        with self.assertRaises(TooBig) as caught:
            same_or_parted(one, other, 4)
        self.assertEqual(caught.exception.bits, 24)

    def test_twelve_sayings_on_either_side_are_refused(self):
        for sayings in ([], [ALWAYS], [NEVER], [ALWAYS] * 12):
            few, twelve = theory_of(TIE, sayings), theory_of(TIE, [ALWAYS] * 12)
            for most in SIZES:
                with self.assertRaises(Crowded):
                    same_or_parted(few, twelve, most)
                with self.assertRaises(Crowded):
                    same_or_parted(twelve, few, most)

    def test_list_that_was_told_is_the_asker_s_own(self):
        one, other = theory_from(TIE, ["r = ~r"]), theory_from(TIE, ["r in ~r"])
        first = same_or_parted(one, other, 2)
        kept = list(first[1])
        first[1].clear()
        second = same_or_parted(one, other, 2)
        self.assertEqual(second, ("same", kept))
        second[1].append("more")
        self.assertEqual(same_or_parted(one, other, 2), ("same", kept))


if __name__ == "__main__":
    unittest.main()
