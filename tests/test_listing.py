"""Promises 21 and 22, with 2 and 3: all unlike worlds of a size, their numbers, and how many there are."""

import math
import random
import unittest

import model
from worldfind.errors import Broken, NoNumber, NoSize, TooBig
from worldfind.likeness import form, likenesses
from worldfind.listing import how_many, number_of, unlike, unlike_count, world_at
from worldfind.papers import theory_of
from worldfind.reading import read_saying

SIZES = range(5)
NO_SIZES = [-1, -2, 5, 6, -(10 ** 50), 10 ** 50, True, False, None, "0", "1", "", 0.0, 2.0, (), (1,), [], [2], {}]
NO_NUMBERS = [True, False, None, -1, -2, -(10 ** 50), 10 ** 50, 0.0, 1.0, "", "0", (), (0,), [], [0], {}]
NEVER, ALWAYS = ("some", ("none",)), ("no", ("none",))
NAMES = ("a", "b", "c", "d")
MORE = ("e", "f", "g", "h")
ALL_WORDS = [(NAMES[:kinds], MORE[:ties]) for kinds in range(5) for ties in range(5)]
TIE = ((), ("r",))
BOTH = (("k", "l"), ("r",))
KIND = (("k", "l"), ())
TEXTS = [
    (TIE, []), (TIE, ["r = ~r"]), (TIE, ["r . r in r"]), (TIE, ["r . r in r", "same in r"]), (TIE, ["some r", "no r"]),
    (TIE, ["r . r in r", "same in r", "r & ~r in same"]), (TIE, ["least 4 r", "most 5 r"]), (TIE, ["^r = all"]),
    (TIE, ["each least 1 r", "each most 1 r"]), (TIE, ["no r & same", "not r = ~r"]), (TIE, ["some same"]),
    (BOTH, []), (BOTH, ["k in l"]), (BOTH, ["r in k . all . l", "some r"]), (BOTH, ["no k & l", "k + l = same"]),
    (KIND, []), (KIND, ["k in l"]), (KIND, ["some k", "some l", "no k & l"]), (KIND, ["k = l"]), (KIND, ["some none"]),
    (((), ()), []), (((), ()), ["least 3 same"]), ((("k", "l", "m"), ()), ["k + l + m = same"]),
    (((), ("r", "s")), ["r . s = s . r", "not r = s"]),
]


def theory_from(words, texts):
    return theory_of(words, [read_saying(words, text) for text in texts])


def cases():
    """Theories and sizes of at most nine bits."""
    for words, texts in TEXTS:
        for size in SIZES:
            if model.how_many_bits(words, size) <= 9:
                yield theory_from(words, texts), size


def some_cases(chance):
    for words, texts in TEXTS[::3]:
        for size in [size for size in SIZES if model.how_many_bits(words, size) <= 9]:
            for place in range(4):
                sayings = [model.some_saying(words, 1, chance) for number in range(chance.randrange(1, 4))]
                yield theory_of(words, sayings), size


def kept_worlds(theory, size):
    return [world for world in model.all_worlds(theory[0], size) if model.keeps_all(theory, world)]


class Case(unittest.TestCase):
    def check_refusals(self, call):
        """Of a call of a theory and a size: NoSize, then TooBig beyond nine bits with its field, ahead of all else."""
        for words in ALL_WORDS:
            for sayings in ([], [NEVER]):
                theory = theory_of(words, sayings)
                for size in NO_SIZES:
                    with self.assertRaises(NoSize, msg=(words, size)):
                        call(theory, size)
                for size in SIZES:
                    number = model.how_many_bits(words, size)
                    if number > 9:
                        with self.assertRaises(TooBig, msg=(words, size)) as caught:
                            call(theory, size)
                        self.assertEqual((caught.exception.bits, type(caught.exception.bits)), (number, int))


class Unlike(Case):
    def test_written_out(self):
        self.assertEqual(unlike(theory_of(TIE, []), 0), [(0, (), (0,))])
        self.assertEqual(unlike(theory_of(TIE, []), 1), [(1, (), (0,)), (1, (), (1,))])
        codes = [0, 1, 2, 3, 5, 6, 7, 9, 11, 15]
        self.assertEqual(unlike(theory_of(TIE, []), 2), [(2, (), (code,)) for code in codes])
        self.assertEqual(unlike(theory_from(TIE, ["some r", "no r"]), 3), [])
        kinds = [(0, 0), (1, 0), (0, 1), (1, 1)]
        self.assertEqual(unlike(theory_of(KIND, []), 1), [(1, pair, ()) for pair in kinds])

    def test_against_all_worlds_gone_through(self):
        for theory, size in list(cases()) + list(some_cases(random.Random(81))):
            words = theory[0]
            forms = {model.least_alike(words, world) for world in kept_worlds(theory, size)}
            answer = unlike(theory, size)
            self.assertEqual(answer, sorted(forms, key=lambda world: model.code_of_world(words, world)), (theory, size))
            self.assertIs(type(answer), list)

    def test_each_world_that_keeps_it_is_alike_to_just_one(self):
        for theory, size in cases():
            lots = [model.worlds_alike(theory[0], world) for world in unlike(theory, size)]
            kept = kept_worlds(theory, size)
            for world in kept:
                self.assertEqual(len([lot for lot in lots if world in lot]), 1)
            self.assertEqual(sum(len(lot) for lot in lots), len(kept))

    def test_every_words_of_at_most_nine_bits(self):
        greatest = 0
        for words in ALL_WORDS:
            for size in SIZES:
                if model.how_many_bits(words, size) <= 9:
                    greatest = max(greatest, model.how_many_bits(words, size))
                    theory = theory_of(words, [])
                    self.assertEqual(len(unlike(theory, size)), unlike_count(words, size))
                    self.assertEqual(how_many(theory, size), 2 ** model.how_many_bits(words, size))
                    self.assertEqual(unlike(theory_of(words, [NEVER]), size), [])
        self.assertEqual(greatest, 9)

    def test_refused(self):
        self.check_refusals(unlike)

    def test_refused_at_ten_bits(self):
        with self.assertRaises(TooBig) as caught:
            unlike(theory_of((("a",), ("e", "f")), []), 2)
        self.assertEqual(caught.exception.bits, 10)

    def test_list_that_was_told_is_the_asker_s_own(self):
        theory = theory_from(TIE, ["r = ~r"])
        worlds = unlike(theory, 3)
        kept = list(worlds)
        worlds.reverse()
        worlds.append("more")
        self.assertEqual(unlike(theory, 3), kept)
        unlike(theory, 3).clear()
        self.assertEqual((world_at(theory, 3, 0), how_many(theory, 3)), (kept[0], 64))
        self.assertEqual((unlike(theory, 3), theory), (kept, theory_from(TIE, ["r = ~r"])))


class Numbers(Case):
    def test_of_one_another(self):
        for theory, size in list(cases()) + list(some_cases(random.Random(82))):
            worlds = list(enumerate(unlike(theory, size)))
            for number, world in worlds[:6] + worlds[6:-1:9] + worlds[-1:]:
                self.assertEqual(world_at(theory, size, number), world)
                self.assertEqual(number_of(theory, world), number)
                self.assertIs(type(number_of(theory, world)), int)

    def test_number_of_a_world_is_that_of_its_form(self):
        for theory, size in cases():
            for world in kept_worlds(theory, size)[::17]:
                number = number_of(theory, world)
                self.assertEqual(world_at(theory, size, number), model.least_alike(theory[0], world))
                self.assertEqual(number, number_of(theory, form(theory[0], world)))

    def test_no_number_is_refused(self):
        for theory, size in cases():
            count = len(unlike(theory, size))
            for number in NO_NUMBERS + [count, count + 1, -count, -count - 1]:
                if type(number) is not int or not 0 <= number < count:
                    with self.assertRaises(NoNumber, msg=(theory, size, number)) as caught:
                        world_at(theory, size, number)
                    self.assertIs(caught.exception.number, number)

    def test_no_size_and_too_big_ahead_of_no_number(self):
        for number in [0, 1] + NO_NUMBERS:
            self.check_refusals(lambda theory, size: world_at(theory, size, number))

    def test_broken_by_the_first_saying(self):
        theory = theory_from(TIE, ["no none", "some r", "most 2 r", "no r & same"])
        sayings = theory[1]
        for size in range(4):
            for world in model.all_worlds(TIE, size):
                broken = [number for number, saying in enumerate(sayings) if not model.is_kept(TIE, world, saying)]
                if not broken:
                    self.assertEqual(unlike(theory, size)[number_of(theory, world)], model.least_alike(TIE, world))
                    continue
                with self.assertRaises(Broken, msg=world) as caught:
                    number_of(theory, world)
                self.assertEqual((caught.exception.number, type(caught.exception.number)), (broken[0], int))

    def test_broken_of_each_of_twelve(self):
        for place in range(12):
            sayings = [ALWAYS] * place + [NEVER] * (12 - place)
            with self.assertRaises(Broken) as caught:
                number_of(theory_of(KIND, sayings), (2, (1, 2), ()))
            self.assertEqual(caught.exception.number, place)

    def test_no_size_and_too_big_ahead_of_broken(self):
        def call(theory, size):
            words = theory[0]
            return number_of(theory, (size, (0,) * len(words[0]), (0,) * len(words[1])))

        self.check_refusals(call)


class Counts(Case):
    def test_how_many_against_all_worlds_gone_through(self):
        for theory, size in list(cases()) + list(some_cases(random.Random(83))):
            answer = how_many(theory, size)
            self.assertEqual((answer, type(answer)), (len(kept_worlds(theory, size)), int), (theory, size))

    def test_how_many_is_the_sum_over_the_listed_ones(self):
        for theory, size in cases():
            shares = [math.factorial(size) // len(likenesses(theory[0], world)) for world in unlike(theory, size)]
            self.assertEqual(how_many(theory, size), sum(shares))

    def test_how_many_known(self):
        orders = theory_from(TIE, ["r . r in r", "same in r", "r & ~r in same"])
        self.assertEqual([how_many(orders, size) for size in range(4)], [1, 1, 3, 19])
        self.assertEqual([len(unlike(orders, size)) for size in range(4)], [1, 1, 2, 5])
        steps = theory_from(TIE, ["each least 1 r", "each most 1 r"])
        self.assertEqual([how_many(steps, size) for size in range(4)], [1, 1, 4, 27])
        self.assertEqual([len(unlike(steps, size)) for size in range(4)], [1, 1, 3, 7])

    def test_how_many_refused(self):
        self.check_refusals(how_many)

    def test_unlike_count_known(self):
        self.assertEqual([unlike_count(TIE, size) for size in SIZES], [1, 2, 10, 104, 3044])
        self.assertEqual([unlike_count((("k",), ()), size) for size in SIZES], [1, 2, 3, 4, 5])
        self.assertEqual([unlike_count(KIND, size) for size in SIZES], [1, 4, 10, 20, 35])
        self.assertEqual([unlike_count(((), ()), size) for size in SIZES], [1] * 5)

    def test_unlike_count_by_rounds_followed_bit_by_bit(self):
        for words in ALL_WORDS:
            for size in SIZES:
                number = model.how_many_bits(words, size)
                worlds = [model.parts_of_world(words, size, 2 ** place) for place in range(number)]
                total = 0
                for renaming in model.all_renamings(size):
                    led = [model.world_renamed(words, world, renaming) for world in worlds]
                    leads = [worlds.index(world) for world in led]
                    rounds = {frozenset(self.followed(leads, place)) for place in range(number)}
                    total += 2 ** len(rounds)
                share, rest = divmod(total, math.factorial(size))
                answer = unlike_count(words, size)
                self.assertEqual((answer, rest, type(answer)), (share, 0, int), (words, size))

    def followed(self, leads, place):
        """All places that one comes to from the one."""
        seen = []
        while place not in seen:
            seen.append(place)
            place = leads[place]
        return seen

    def test_unlike_count_against_all_worlds_gone_through(self):
        for words, most in ((TIE, 3), (BOTH, 2), ((("k", "l", "m"), ()), 4), (((), ("r", "s")), 2)):
            for size in range(most + 1):
                forms = {model.least_alike(words, world) for world in model.all_worlds(words, size)}
                self.assertEqual(unlike_count(words, size), len(forms))

    def test_unlike_count_of_many_bits(self):
        words = (NAMES, MORE)
        self.assertEqual(model.how_many_bits(words, 4), 80)
        # All renamings but the one that changes nothing add little.
        self.assertGreaterEqual(unlike_count(words, 4), 2 ** 80 // 24)
        self.assertLess(unlike_count(words, 4), 2 ** 80 // 24 + 2 ** 60)

    def test_unlike_count_refused(self):
        for words in ALL_WORDS:
            for size in NO_SIZES:
                with self.assertRaises(NoSize, msg=(words, size)):
                    unlike_count(words, size)


if __name__ == "__main__":
    unittest.main()
