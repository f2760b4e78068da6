"""Promises 17 and 18, with 2, 3 and 15: for each theory and size a world or a paper, and the smallest world."""

import random
import unittest

import model
from worldfind.errors import NoSize, NoWorld, TooBig
from worldfind.papers import holds, theory_of
from worldfind.reading import read_saying
from worldfind.search import found, smallest

SIZES = range(5)
NO_SIZES = [-1, -2, 5, 6, -(10 ** 50), 10 ** 50, True, False, None, "0", "1", "", 0.0, 2.0, (), (1,), [], [2], {}]
NONE = ((), ())
TIE = ((), ("r",))
TIES = ((), ("a", "b", "c", "d"))
KINDS = (("k", "l", "m", "n"), ())
BOTH = (("k", "l"), ("r",))
NEVER, ALWAYS = ("some", ("none",)), ("no", ("none",))
NAMES = ("a", "b", "c", "d")
MORE = ("e", "f", "g", "h")
ALL_WORDS = [(NAMES[:kinds], MORE[:ties]) for kinds in range(5) for ties in range(5)]
# For each theory at which sizes a world keeps it.
KNOWN = [
    (TIE, [], [0, 1, 2, 3, 4]),
    (TIE, ["some r"], [1, 2, 3, 4]),
    (TIE, ["no same"], [0]),
    (TIE, ["some r", "no r"], []),
    (TIE, ["some r or no r"], [0, 1, 2, 3, 4]),
    (TIE, ["least 2 same", "most 3 same"], [2, 3]),
    (TIE, ["least 5 r"], [3, 4]),
    (TIE, ["least 16 r"], [4]),
    (TIE, ["least 17 r"], []),
    # A pairing off.
    (TIE, ["r = ~r", "no r & same", "each least 1 r", "each most 1 r"], [0, 2, 4]),
    (TIE, ["r = ~r", "no r & same", "each least 1 r", "each most 1 r", "some same"], [2, 4]),
    (TIE, ["r = ~r", "no r & same", "each least 1 r", "each most 1 r", "least 3 same"], [4]),
    (TIE, ["r = ~r", "no r & same", "each least 1 r", "each most 1 r", "some same", "^r = all"], [2]),
    # An order without an end.
    (TIE, ["no r & same", "r . r in r", "each least 1 r"], [0]),
    (TIE, ["no r & same", "r . r in r", "some r", "r in r . r"], []),
    # One round of all things.
    (TIE, ["each least 1 r", "each most 1 r", "^r = all", "no r . r & same"], [0, 3, 4]),
    # An odd number of pairs, and yet each one turned.
    (TIE, ["r = ~r", "no r & same", "least 7 r", "most 7 r"], []),
    (TIE, ["no r & ~r", "all in r + ~r + same", "no r & same", "each most 1 r"], [0, 1, 2, 3]),
    (TIE, ["no r & ~r", "all in r + ~r + same", "no r & same", "each most 1 r", "each least 1 r"], [0, 3]),
    (TIES, ["a . b = c", "c . d = a", "not a = c . d"], []),
    (TIES, ["a . b = same", "not b . a = same"], []),
    (TIES, ["a + b + c + d = all", "no a & b", "no a & c", "no a & d", "no b & c", "no b & d", "no c & d",
            "a = ~a", "b = ~b", "c = ~c", "d = ~d", "some a and some b and some c and some d"], []),
    (TIES, ["least 4 a & b & c & d"], [2]),
    (KINDS, ["k + l = m - n", "m + n = k - l", "some k", "some all - k . all"], [2, 3, 4]),
    (KINDS, ["most 1 k", "most 1 l", "most 1 m", "most 0 n", "k + l + m + n = same"], [0, 1, 2, 3]),
    (BOTH, ["k + l = same", "no k & l", "some k", "some l", "r in k . all . l", "each least 1 r + ~r"], [2, 3]),
    (BOTH, ["k + l = same", "no k & l", "each least 1 k . r . l + l . r . k", "each most 1 r", "r = ~r"], [0, 2]),
    (NONE, ["least 3 same", "most 15 all"], [3]),
    (NONE, ["some none"], []),
]


def theory_from(words, texts):
    return theory_of(words, [read_saying(words, text) for text in texts])


class Case(unittest.TestCase):
    def check_found(self, theory, size):
        """What is told, having been held against the model: 'world' or 'paper'."""
        before = repr(theory)
        answer = found(theory, size)
        self.assertEqual((type(answer), len(answer), repr(theory)), (tuple, 2, before))
        sort, thing = answer
        if sort == "world":
            self.check_world(theory, size, thing)
        else:
            self.assertEqual(sort, "paper")
            self.check_paper(theory, size, thing)
        return sort

    def check_world(self, theory, size, world):
        words = theory[0]
        self.assertEqual((type(world), len(world), type(world[0])), (tuple, 3, int))
        self.assertEqual([type(part) for part in world[1:]], [tuple, tuple])
        self.assertEqual([type(value) for value in world[1] + world[2]], [int] * len(words[0] + words[1]))
        code = model.code_of_world(words, world)
        self.assertEqual(world, model.parts_of_world(words, size, code))
        self.assertTrue(model.keeps_all(theory, world), (theory, world))

    def check_paper(self, theory, size, paper):
        self.assertIs(holds(theory, size, paper), True, (theory, size))
        self.assertIs(model.paper_holds(theory, size, paper), True, (theory, size))


class Found(Case):
    def test_known_theories(self):
        for words, texts, sizes in KNOWN:
            theory = theory_from(words, texts)
            for size in [size for size in SIZES if model.how_many_bits(words, size) <= 16]:
                sort = self.check_found(theory, size)
                self.assertEqual(sort, "world" if size in sizes else "paper", (texts, size))

    def test_against_all_worlds_gone_through(self):
        chance = random.Random(61)
        sorts = []
        for words in (NONE, TIE, BOTH, (("k",), ("r",)), (("k", "l", "m"), ()), ((), ("a", "b"))):
            for size in [size for size in SIZES if model.how_many_bits(words, size) <= 9]:
                worlds = model.all_worlds(words, size)
                for place in range(40):
                    sayings = [model.some_saying(words, 1, chance) for number in range(chance.randrange(5))]
                    theory = theory_of(words, sayings)
                    is_one = any(model.keeps_all(theory, world) for world in worlds)
                    self.assertEqual(self.check_found(theory, size), "world" if is_one else "paper", theory)
                    sorts.append(is_one)
        self.assertGreater(sorts.count(True), 100)
        self.assertGreater(sorts.count(False), 100)

    def test_by_chance_to_sixteen_bits(self):
        chance = random.Random(62)
        sorts = []
        for words, size in ((TIE, 4), (TIES, 2), (KINDS, 4), (BOTH, 3), ((("k", "l"), ("r", "s")), 2)):
            for place in range(40):
                sayings = [model.some_saying(words, 2, chance) for number in range(chance.randrange(1, 13))]
                sorts.append(self.check_found(theory_of(words, sayings), size))
        self.assertGreater(sorts.count("world"), 20)
        self.assertGreater(sorts.count("paper"), 20)

    def test_just_one_world_of_all(self):
        for words, size in ((TIE, 1), (TIE, 2), (TIE, 3), (TIE, 4), (TIES, 2), (((), ("a", "b")), 2)):
            whole, same = model.all_pairs(size), {(a, a) for a in range(size)}
            texts = {"none": set(), "all": whole, "same": same, "all - same": whole - same}
            for text, pairs in texts.items():
                tie = model.number_from_pairs(size, pairs)
                sayings = [f"{name} = {text}" for name in words[1]]
                world = (size, (), (tie,) * len(words[1]))
                self.assertEqual(found(theory_from(words, sayings), size), ("world", world))
                broken = sayings + [f"not {name} = {text}" for name in words[1][-1:]]
                self.assertEqual(self.check_found(theory_from(words, broken), size), "paper")

    def test_all_worlds_break_it_but_no_saying_shows_it_early(self):
        theory = theory_from(TIE, ["some r - r"])
        for size in range(1, 4):
            self.assertEqual(self.check_found(theory, size), "paper")
        two = theory_from(((), ("a", "b")), ["some a . b - a . b"])
        self.assertEqual(self.check_found(two, 2), "paper")

    def test_without_sayings_and_with_twelve(self):
        for words in ALL_WORDS:
            for size in [size for size in SIZES if model.how_many_bits(words, size) <= 16]:
                self.assertEqual(self.check_found(theory_of(words, []), size), "world")
                self.assertEqual(self.check_found(theory_of(words, [ALWAYS] * 12), size), "world")
                self.assertEqual(self.check_found(theory_of(words, [ALWAYS] * 11 + [NEVER]), size), "paper")

    def test_each_saying_counts(self):
        texts = ["r = ~r", "each most 1 r", "least 3 same", "^r = all"]
        whole = theory_from(TIE, texts)
        self.assertEqual([self.check_found(whole, size) for size in SIZES], ["paper"] * 5)
        for number in range(len(texts)):
            left = theory_from(TIE, texts[:number] + texts[number + 1:])
            sizes = [size for size in SIZES if self.check_found(left, size) == "world"]
            self.assertTrue(sizes, texts[number])

    def test_refused_beyond_sixteen_bits(self):
        for words in ALL_WORDS:
            for size in SIZES:
                number = model.how_many_bits(words, size)
                if number > 16:
                    for sayings in ([], [NEVER]):
                        with self.assertRaises(TooBig, msg=(words, size)) as caught:
                            found(theory_of(words, sayings), size)
                        self.assertEqual((caught.exception.bits, type(caught.exception.bits)), (number, int))

    def test_no_size_ahead_of_all_else(self):
        for words in ALL_WORDS:
            for size in NO_SIZES:
                for sayings in ([], [NEVER]):
                    with self.assertRaises(NoSize, msg=(words, size)):
                        found(theory_of(words, sayings), size)

    def test_told_again_as_the_same(self):
        for words, texts, sizes in KNOWN[:12]:
            theory = theory_from(words, texts)
            self.assertEqual(found(theory, 2), found(theory, 2))


class Smallest(Case):
    def check_smallest(self, theory, most, sizes):
        lesser = [size for size in sizes if size <= most]
        if not lesser:
            with self.assertRaises(NoWorld, msg=(theory, most)) as caught:
                smallest(theory, most)
            papers = caught.exception.papers
            self.assertEqual(len(papers), most + 1)
        else:
            answer = smallest(theory, most)
            self.assertEqual((type(answer), len(answer)), (tuple, 2))
            world, papers = answer
            self.check_world(theory, lesser[0], world)
            self.assertEqual(len(papers), lesser[0])
        self.assertIs(type(papers), list)
        for size, paper in enumerate(papers):
            self.check_paper(theory, size, paper)

    def test_known_theories(self):
        for words, texts, sizes in KNOWN:
            theory = theory_from(words, texts)
            for most in [size for size in SIZES if model.how_many_bits(words, size) <= 16]:
                self.check_smallest(theory, most, sizes)

    def test_against_all_worlds_gone_through(self):
        chance = random.Random(64)
        for words, most in ((TIE, 3), (BOTH, 2), ((("k", "l"), ()), 4), (NONE, 4)):
            for place in range(60):
                sayings = [model.some_saying(words, 1, chance) for number in range(chance.randrange(4))]
                theory = theory_of(words, sayings)
                sizes = [size for size in range(most + 1)
                         if any(model.keeps_all(theory, world) for world in model.all_worlds(words, size))]
                self.check_smallest(theory, most, sizes)

    def test_refused_by_the_greatest_size_though_a_lesser_one_has_a_world(self):
        for words in ALL_WORDS:
            for most in SIZES:
                number = model.how_many_bits(words, most)
                for saying, sizes in ((ALWAYS, SIZES), (NEVER, []), (("some", ("same",)), range(1, 5))):
                    theory = theory_of(words, [saying])
                    if number <= 16:
                        self.check_smallest(theory, most, sizes)
                        continue
                    with self.assertRaises(TooBig, msg=(words, most)) as caught:
                        smallest(theory, most)
                    self.assertEqual((caught.exception.bits, type(caught.exception.bits)), (number, int))

    def test_no_size_ahead_of_all_else(self):
        for words in ALL_WORDS:
            for most in NO_SIZES:
                for sayings in ([], [NEVER]):
                    with self.assertRaises(NoSize, msg=(words, most)):
                        smallest(theory_of(words, sayings), most)

    def test_list_that_was_told_is_the_asker_s_own(self):
        theory = theory_from(TIE, ["least 5 r"])
        world, papers = smallest(theory, 4)
        kept = list(papers)
        papers.clear()
        self.assertEqual(smallest(theory, 4), (world, kept))
        again = smallest(theory, 4)[1]
        smallest(theory, 4)[1].append("more")
        self.assertEqual(again, kept)

    def test_list_of_the_refusal_is_the_asker_s_own(self):
        theory = theory_from(TIE, ["some r", "no r"])
        told = []
        for place in range(2):
            with self.assertRaises(NoWorld) as caught:
                smallest(theory, 2)
            told.append(caught.exception.papers)
        self.assertEqual(told[0], told[1])
        told[0].clear()
        self.assertEqual(len(told[1]), 3)
        self.check_smallest(theory, 2, [])


if __name__ == "__main__":
    unittest.main()
