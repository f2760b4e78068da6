"""Promise 24, with 2, 3 and 15: of sayings that no world keeps, some of which none can be left out."""

import itertools
import random
import unittest

import model
from worldfind.errors import Kept, NoSize, TooBig
from worldfind.papers import holds, theory_of
from worldfind.quarrels import quarrel
from worldfind.reading import read_saying

SIZES = range(5)
NO_SIZES = [-1, -2, 5, 6, -(10 ** 50), 10 ** 50, True, False, None, "0", "1", "", 0.0, 2.0, (), (1,), [], [2], {}]
NONE = ((), ())
TIE = ((), ("r",))
TWO = ((), ("r", "s"))
BOTH = (("k", "l"), ("r",))
KIND = (("k", "l"), ())
NEVER, ALWAYS = ("some", ("none",)), ("no", ("none",))
NAMES = ("a", "b", "c", "d")
MORE = ("e", "f", "g", "h")
ALL_WORDS = [(NAMES[:kinds], MORE[:ties]) for kinds in range(5) for ties in range(5)]
# A theory, the sizes at which no world keeps it, and all quarrels it has there.
KNOWN = [
    (TIE, ["some r", "no r"], [1, 2, 3, 4], [[0, 1]]),
    (TIE, ["some r", "no r"], [0], [[0]]),
    (TIE, ["no none", "some none", "no r"], [0, 1, 2, 3, 4], [[1]]),
    (TIE, ["some none", "some none"], [0, 1, 2, 3, 4], [[0], [1]]),
    (TIE, ["some r", "no r & same", "r . r in r", "each least 1 r"], [2, 3, 4], [[1, 2, 3]]),
    (TIE, ["some r", "no r & same", "r . r in r", "each least 1 r"], [1], [[0, 1], [1, 3]]),
    (TIE, ["least 3 r", "r = ~r", "most 2 r", "no r & same", "most 1 r"], [2, 3, 4], [[0, 2], [0, 4]]),
    (TIE, ["r = ~r", "least 7 r", "no r & same", "most 7 r"], [4], [[0, 1, 2, 3]]),
    (TIE, ["r = ~r", "least 7 r", "no r & same", "most 7 r"], [3], [[1, 2]]),
    (TIE, ["r = ~r", "least 7 r", "no r & same", "most 7 r"], [0, 1, 2], [[1]]),
    (TIE, ["most 3 r", "most 4 r", "least 5 r", "least 4 r"], [3, 4], [[0, 2], [0, 3], [1, 2]]),
    (TWO, ["r in s", "some r - s"], [1, 2], [[0, 1]]),
    (KIND, ["k in l", "some k", "no l", "k = l"], [1, 2, 3, 4], [[0, 1, 2], [1, 2, 3]]),
    (BOTH, ["r in k . all . l", "no k & l", "some r . r"], [1], [[0, 1, 2]]),
    (BOTH, ["r in k . all . l", "no k & l", "some r . r"], [2, 3], [[0, 1, 2]]),
    (NONE, ["least 3 same", "most 2 same"], [3, 4], [[1]]),
    (NONE, ["least 3 same", "most 2 same"], [0, 1, 2], [[0]]),
]
# Theories that no world keeps, though one of two things or more keeps all of their sayings but one.
ALL_NEEDED = [
    (TIE, ["some r & same", "some r - same", "most 1 r"]),
    (TIE, ["r = ~r", "some r", "no r & ~r"]),
    (TWO, ["r = s", "some r", "no s"]),
    ((("k", "l", "m"), ()), ["some k", "k in l", "l in m", "no m"]),
]
POOL = [
    "some r", "no r & same", "some r & same", "r = ~r", "r . r in r", "each least 1 r", "each most 1 r", "^r = all",
    "least 3 r", "most 3 r", "no r & ~r", "some r - same", "not r . r in r", "all in r + ~r", "r in r . r", "not r = ~r",
    "each most 1 ~r", "each least 1 ~r", "no r . r", "some all - ^r", "no ^r & same",
]


def theory_from(words, texts):
    return theory_of(words, [read_saying(words, text) for text in texts])


def sizes_of(words, most_bits):
    return [size for size in SIZES if model.how_many_bits(words, size) <= most_bits]


class Case(unittest.TestCase):
    def check_quarrel(self, theory, size):
        """The numbers of the quarrel that is told, held against the model; None where a world keeps the theory."""
        before = repr(theory)
        try:
            answer = quarrel(theory, size)
        except Kept as kept:
            self.assertTrue(model.is_world(theory[0], size, kept.world), (theory, size))
            self.assertTrue(model.keeps_all(theory, kept.world), (theory, size))
            self.assertEqual(repr(theory), before)
            return None
        self.assertEqual(repr(theory), before)
        self.assertTrue(model.is_quarrel(theory, size, answer), (theory, size, answer[0]))
        chosen = (theory[0], tuple(theory[1][number] for number in answer[0]))
        self.assertIs(holds(chosen, size, answer[1]), True)
        return answer[0]


class Quarrels(Case):
    def test_known(self):
        for words, texts, sizes, quarrels in KNOWN:
            theory = theory_from(words, texts)
            for size in sizes:
                self.assertIn(self.check_quarrel(theory, size), quarrels, (texts, size))

    def test_written_out(self):
        theory = theory_from(TIE, ["no none", "some none", "no r"])
        self.assertEqual(quarrel(theory, 1)[:2], ([1], ("broken", 0)))
        theory = theory_from(TIE, ["no none", "some r", "no none", "no r"])
        paper = ("split", "r", 0, 0, ("broken", 1), ("broken", 0))
        self.assertEqual(quarrel(theory, 1), ([1, 3], paper, [(1, (), (0,)), (1, (), (1,))]))

    def test_in_any_order_of_the_sayings(self):
        for words, texts in ALL_NEEDED:
            for order in itertools.permutations(texts):
                for size in sizes_of(words, 9)[1:]:
                    spread = [text for one in order for text in ("no none", one, "least 0 all")]
                    answer = self.check_quarrel(theory_from(words, spread), size)
                    self.assertTrue(all(number % 3 == 1 for number in answer), (order, size, answer))
                    if size > 1:
                        self.assertEqual(len(answer), len(texts))

    def test_against_all_worlds_gone_through(self):
        chance = random.Random(101)
        for words in (NONE, TIE, BOTH, TWO, (("k", "l", "m"), ())):
            for size in sizes_of(words, 9):
                for place in range(20):
                    sayings = [model.some_saying(words, 1, chance) for number in range(chance.randrange(1, 9))]
                    self.check_against_all_worlds(theory_of(words, sayings), size)

    def test_longer_ones_against_all_worlds_gone_through(self):
        chance = random.Random(103)
        lengths = []
        for place in range(180):
            texts = chance.sample(POOL, chance.randrange(3, 9))
            answer = self.check_against_all_worlds(theory_from(TIE, texts), chance.choice((1, 2, 2, 3, 3)))
            lengths.append(0 if answer is None else len(answer))
        for length in (0, 2, 3):
            self.assertGreater(lengths.count(length), 20)
        self.assertGreater(len([length for length in lengths if length > 3]), 3)

    def check_against_all_worlds(self, theory, size):
        answer = self.check_quarrel(theory, size)
        is_one = any(model.keeps_all(theory, world) for world in model.all_worlds(theory[0], size))
        self.assertIs(answer is None, is_one, (theory, size))
        return answer

    def test_by_chance_to_sixteen_bits(self):
        chance = random.Random(102)
        lengths = []
        for words, size in ((TIE, 4), (BOTH, 3), (KIND, 4), ((("k",), ("r", "s")), 2)):
            for place in range(15):
                sayings = [model.some_saying(words, 1, chance) for number in range(12)]
                answer = self.check_quarrel(theory_of(words, sayings), size)
                lengths.append(0 if answer is None else len(answer))
        self.assertGreater(len(lengths) - lengths.count(0), 20)

    def test_many_that_are_all_needed(self):
        # Each kind has a thing at most, and no two have things, yet two things are of some kind.
        names = [("name", name) for name in NAMES]
        either = ("plus", ("plus", names[0], names[1]), ("plus", names[2], names[3]))
        sayings = [("least", 2, either)] + [("most", 1, name) for name in names]
        for one, other in itertools.combinations(names, 2):
            sayings.append(("or", ("no", one), ("no", other)))
        for place in range(11):
            turned = sayings[place:] + sayings[:place]
            answer = self.check_quarrel(theory_of((NAMES, ()), turned), 4)
            self.assertEqual(answer, list(range(11)))
            answer = self.check_quarrel(theory_of((NAMES, ()), [ALWAYS] + turned), 3)
            self.assertEqual(answer, list(range(1, 12)))

    def test_many_of_which_few_are_needed(self):
        bounds = [("most", number, ("name", "r")) for number in range(5, 15)]
        # Of these any one by itself quarrels with the one behind them.
        theory = theory_of(TIE, bounds + [("least", 15, ("name", "r")), ALWAYS])
        answer = self.check_quarrel(theory, 4)
        self.assertEqual((len(answer), answer[1]), (2, 10))

    def test_of_twelve_told_again_and_again(self):
        for place in range(12):
            sayings = [ALWAYS] * 12
            sayings[place] = NEVER
            for size in SIZES:
                self.assertEqual(self.check_quarrel(theory_of(TIE, sayings), size), [place])
        answer = self.check_quarrel(theory_of(TIE, [NEVER] * 12), 2)
        self.assertEqual(len(answer), 1)


class Refusals(Case):
    def test_kept_with_a_world_that_keeps_it(self):
        for words in ALL_WORDS:
            for size in sizes_of(words, 16):
                for sayings in ([], [ALWAYS], [ALWAYS] * 12):
                    self.assertIsNone(self.check_quarrel(theory_of(words, sayings), size))
        for size in SIZES:
            theory = theory_from(TIE, ["r = ~r", "no r & same", "each most 1 r"])
            self.assertIsNone(self.check_quarrel(theory, size))
        theory = theory_from(TIE, ["r = ~r", "no r & same", "each most 1 r", "each least 1 r", "some r"])
        self.assertEqual([self.check_quarrel(theory, size) is None for size in SIZES],
                         [False, False, True, False, True])

    def test_no_size_then_too_big_ahead_of_it(self):
        for words in ALL_WORDS:
            for sayings in ([], [NEVER], [ALWAYS] * 12):
                theory = theory_of(words, sayings)
                for size in NO_SIZES:
                    with self.assertRaises(NoSize, msg=(words, size)):
                        quarrel(theory, size)
                for size in SIZES:
                    number = model.how_many_bits(words, size)
                    if number > 16:
                        with self.assertRaises(TooBig, msg=(words, size)) as caught:
                            quarrel(theory, size)
                        self.assertEqual((caught.exception.bits, type(caught.exception.bits)), (number, int))

    def test_lists_that_were_told_are_the_asker_s_own(self):
        theory = theory_from(TIE, ["some r", "r = ~r", "no r"])
        first = quarrel(theory, 2)
        numbers, worlds = list(first[0]), list(first[2])
        first[0].clear()
        first[2].append("more")
        second = quarrel(theory, 2)
        self.assertEqual((second[0], second[2]), (numbers, worlds))
        second[0].append(7)
        second[2].clear()
        self.assertEqual(quarrel(theory, 2)[::2], (numbers, worlds))
        self.assertEqual(theory, theory_from(TIE, ["some r", "r = ~r", "no r"]))


if __name__ == "__main__":
    unittest.main()
