"""Promises 8 and 9, with 2: the value of an expression, and whether a world keeps a saying."""

import itertools
import random
import unittest

import model
from worldfind.sayings import keeps, value

SIZES = range(5)
WORDS = (("k",), ("r", "s"))
FULL_WORDS = (("ka", "kb", "kc", "kd"), ("ra", "rb", "rc", "rd"))
R = ("name", "r")
S = ("name", "s")
K = ("name", "k")


def world_with(size, kind, pairs, others=()):
    ties = (model.number_from_pairs(size, pairs), model.number_from_pairs(size, others))
    return (size, (kind,), ties)


class Values(unittest.TestCase):
    def check(self, words, world, expression):
        answer = value(words, world, expression)
        self.assertIs(type(answer), int, (world, expression))
        expected = model.number_from_pairs(world[0], model.pairs_in(words, world, expression))
        self.assertEqual(answer, expected, (world, expression))

    def check_pairs(self, world, expression, pairs):
        self.assertEqual(value(WORDS, world, expression), model.number_from_pairs(world[0], pairs), expression)

    def test_each_sort_written_out(self):
        world = world_with(3, 0b101, [(0, 1), (1, 2)], [(1, 2), (2, 2), (2, 0)])
        self.check_pairs(world, K, [(0, 0), (2, 2)])
        self.check_pairs(world, R, [(0, 1), (1, 2)])
        self.check_pairs(world, S, [(1, 2), (2, 2), (2, 0)])
        self.check_pairs(world, ("same",), [(0, 0), (1, 1), (2, 2)])
        self.check_pairs(world, ("all",), sorted(model.all_pairs(3)))
        self.check_pairs(world, ("none",), [])
        self.check_pairs(world, ("plus", R, S), [(0, 1), (1, 2), (2, 2), (2, 0)])
        self.check_pairs(world, ("less", R, S), [(0, 1)])
        self.check_pairs(world, ("less", S, R), [(2, 2), (2, 0)])
        self.check_pairs(world, ("both", R, S), [(1, 2)])
        self.check_pairs(world, ("joined", R, S), [(0, 2), (1, 2), (1, 0)])
        self.check_pairs(world, ("joined", S, R), [(2, 1)])
        self.check_pairs(world, ("turned", R), [(1, 0), (2, 1)])
        self.check_pairs(world, ("closed", R), [(0, 1), (0, 2), (1, 2)])
        self.check_pairs(world, ("joined", K, R), [(0, 1)])
        self.check_pairs(world, ("joined", R, K), [(1, 2)])

    def test_each_sort_over_names_and_bare_words(self):
        chance = random.Random(1)
        for size in SIZES:
            for world in model.some_worlds(WORDS, size, (1100, 1100, 1100, 80, 80)[size], chance):
                for expression in model.flat_expressions(WORDS):
                    self.check(WORDS, world, expression)

    def test_within_one_another(self):
        chance = random.Random(2)
        for size in SIZES:
            for world in model.some_worlds(WORDS, size, 60, chance):
                for depth in (2, 2, 3, 3, 4, 5):
                    self.check(WORDS, world, model.some_expression(WORDS, depth, chance))

    def test_each_sort_within_each_at_each_place(self):
        chance = random.Random(3)
        atoms = [K, R, ("same",)]
        inner = [(sort, one) for sort in model.ONES for one in atoms]
        inner += [(sort, one, S) for sort in model.TWOS for one in atoms] + [S]
        outer = [(sort, one) for sort in model.ONES for one in inner]
        outer += [(sort, one, R) for sort in model.TWOS for one in inner]
        outer += [(sort, R, one) for sort in model.TWOS for one in inner]
        for size in SIZES:
            for world in model.some_worlds(WORDS, size, 40, chance):
                for expression in outer:
                    self.check(WORDS, world, expression)

    def test_each_name_has_its_own_value(self):
        chance = random.Random(4)
        for size in SIZES:
            for world in model.some_worlds(FULL_WORDS, size, 60, chance):
                for name in FULL_WORDS[0] + FULL_WORDS[1]:
                    self.check(FULL_WORDS, world, ("name", name))

    def test_kind_is_each_thing_tied_to_itself(self):
        for size in SIZES:
            for kind in range(2 ** size):
                world = (size, (kind,), (0, 0))
                pairs = [(a, a) for a in range(size) if kind & 2 ** a]
                self.check_pairs(world, K, pairs)

    def test_words_of_kinds_alone_of_ties_alone_of_none(self):
        chance = random.Random(5)
        for words in ((("a", "b"), ()), ((), ("a", "b")), ((), ())):
            for size in SIZES:
                for world in model.some_worlds(words, size, 40, chance):
                    for expression in model.flat_expressions(words):
                        self.check(words, world, expression)

    def test_without_things_all_is_without_pairs(self):
        world = (0, (0,), (0, 0))
        for expression in model.flat_expressions(WORDS):
            answer = value(WORDS, world, expression)
            self.assertIs(type(answer), int)
            self.assertEqual(answer, 0, expression)

    def test_thirty_within_one_another(self):
        world = world_with(4, 0b0110, [(0, 1), (1, 2), (2, 3)], [(3, 0)])
        for sort in model.TWOS:
            left = right = R
            for place in range(29):
                left = (sort, left, (R, S, K)[place % 3])
                right = (sort, (R, S, K)[place % 3], right)
            self.check(WORDS, world, left)
            self.check(WORDS, world, right)
        one = R
        for place in range(29):
            one = (model.ONES[place % 2], one)
        self.check(WORDS, world, one)

    def test_nothing_is_kept_from_one_call_to_the_next(self):
        worlds = [world_with(2, 1, [(0, 1)]), world_with(2, 2, [(1, 0)]), world_with(3, 1, [(0, 1)])]
        for one, other in itertools.product(worlds, repeat=2):
            for expression in (R, K, ("closed", R), ("same",), ("all",)):
                self.check(WORDS, one, expression)
                self.check(WORDS, other, expression)
        self.assertEqual(value((("r",), ()), (2, (2,), ()), R), 8)
        self.assertEqual(value(((), ("r",)), (2, (), (2,)), R), 2)


class Keeping(unittest.TestCase):
    def check(self, words, world, saying):
        answer = keeps(words, world, saying)
        self.assertIs(answer, model.is_kept(words, world, saying), (world, saying))
        return answer

    def check_kept(self, world, *sayings):
        for saying in sayings:
            self.assertIs(keeps(WORDS, world, saying), True, saying)

    def check_broken(self, world, *sayings):
        for saying in sayings:
            self.assertIs(keeps(WORDS, world, saying), False, saying)

    def test_each_sort_written_out(self):
        world = world_with(3, 0b001, [(0, 1), (0, 2), (1, 2)], [(0, 1), (0, 2)])
        self.check_kept(
            world, ("in", S, R), ("in", S, S), ("in", ("none",), S), ("equal", S, S), ("equal", ("joined", K, R), S),
            ("some", R), ("no", ("none",)), ("no", ("both", R, K)), ("least", 3, R), ("most", 3, R),
            ("eachleast", 0, R), ("eachmost", 2, R), ("eachleast", 3, ("all",)), ("eachmost", 1, K))
        self.check_broken(
            world, ("in", R, S), ("in", K, R), ("equal", R, S), ("equal", S, R), ("equal", K, R),
            ("some", ("none",)), ("no", R), ("least", 4, R), ("most", 2, R),
            ("eachleast", 1, R), ("eachmost", 1, R), ("eachleast", 4, ("all",)), ("eachmost", 0, K))

    def test_each_sort_of_fact(self):
        chance = random.Random(11)
        flat = [K, R, S, ("same",), ("all",), ("none",), ("turned", R), ("less", R, S), ("plus", K, S)]
        for size in SIZES:
            for world in model.some_worlds(WORDS, size, (1100, 1100, 300, 150, 150)[size], chance):
                for one in flat:
                    self.check(WORDS, world, ("some", one))
                    self.check(WORDS, world, ("no", one))
                    for other in flat:
                        self.check(WORDS, world, ("in", one, other))
                        self.check(WORDS, world, ("equal", one, other))

    def test_each_fact_of_two_is_both_kept_and_broken(self):
        for size in range(1, 5):
            whole = model.all_pairs(size)
            for pair in whole:
                worlds = [
                    world_with(size, 0, one, other)
                    for one, other in itertools.product([[], [pair], whole - {pair}, whole], repeat=2)
                ]
                for sort in ("in", "equal"):
                    answers = [self.check(WORDS, world, (sort, R, S)) for world in worlds]
                    self.assertEqual({True, False}, set(answers))

    def test_how_many_pairs_there_are(self):
        chance = random.Random(12)
        for size in SIZES:
            for world in model.some_worlds(((), ("r",)), size, 600, chance):
                number = len(model.pairs_in(((), ("r",)), world, R))
                for limit in {0, 1, number - 1, number, number + 1, size * size, size * size + 1, 99} - {-1}:
                    for sort, expected in (("least", number >= limit), ("most", number <= limit)):
                        self.assertIs(keeps(((), ("r",)), world, (sort, limit, R)), expected, (world, limit))

    def test_how_many_are_tied_from_each(self):
        chance = random.Random(13)
        for size in SIZES:
            for world in model.some_worlds(((), ("r",)), size, 600, chance):
                for limit in list(range(size + 2)) + [99]:
                    self.check(((), ("r",)), world, ("eachleast", limit, R))
                    self.check(((), ("r",)), world, ("eachmost", limit, R))

    def test_one_thing_that_differs_from_the_others(self):
        for size in range(2, 5):
            for odd in range(size):
                for odd_number, others_number in itertools.permutations(range(size + 1), 2):
                    pairs = [
                        (a, b) for a in range(size)
                        for b in range(odd_number if a == odd else others_number)
                    ]
                    world = world_with(size, 0, pairs)
                    for limit in range(size + 2):
                        least = min(odd_number, others_number) >= limit
                        most = max(odd_number, others_number) <= limit
                        self.assertIs(keeps(WORDS, world, ("eachleast", limit, R)), least)
                        self.assertIs(keeps(WORDS, world, ("eachmost", limit, R)), most)

    def test_each_counts_from_things_and_not_to_them(self):
        world = world_with(3, 0, [(0, 0), (0, 1), (0, 2)])
        self.check_kept(world, ("eachleast", 1, ("turned", R)), ("eachmost", 1, ("turned", R)), ("eachmost", 3, R))
        self.check_broken(world, ("eachleast", 1, R), ("eachmost", 2, R))

    def test_limit_0(self):
        for size in SIZES:
            bare = world_with(size, 0, [])
            self.check_kept(
                bare, ("least", 0, R), ("most", 0, R), ("eachleast", 0, R), ("eachmost", 0, R))
            full = world_with(size, 0, model.all_pairs(size))
            self.check_kept(full, ("least", 0, R), ("eachleast", 0, R))
            if size:
                self.check_broken(full, ("most", 0, R), ("eachmost", 0, R))

    def test_at_the_number_of_pairs_and_one_beyond(self):
        for size in range(1, 5):
            full = world_with(size, 0, model.all_pairs(size))
            number = size * size
            self.check_kept(
                full, ("least", number, R), ("most", number, R), ("least", number - 1, R), ("most", number + 1, R),
                ("eachleast", size, R), ("eachmost", size, R), ("eachleast", size - 1, R), ("eachmost", size + 1, R))
            self.check_broken(
                full, ("least", number + 1, R), ("most", number - 1, R),
                ("eachleast", size + 1, R), ("eachmost", size - 1, R))

    def test_without_things(self):
        world = (0, (0,), (0, 0))
        for limit in (0, 1, 2, 99):
            for expression in (K, R, ("same",), ("all",), ("none",), ("closed", R)):
                self.check_kept(world, ("eachleast", limit, expression), ("eachmost", limit, expression))
                self.check_kept(world, ("most", limit, expression), ("no", expression))
                self.check_kept(world, ("in", expression, R), ("equal", expression, R))
                self.check_broken(world, ("some", expression))
                self.assertIs(keeps(WORDS, world, ("least", limit, expression)), limit == 0)

    def test_not_and_or(self):
        kept, broken = ("some", ("all",)), ("some", ("none",))
        for size in range(1, 5):
            world = world_with(size, 0, [])
            self.check_kept(world, kept, ("not", broken), ("not", ("not", kept)))
            self.check_broken(world, broken, ("not", kept), ("not", ("not", broken)))
            self.check_kept(world, ("and", kept, kept), ("or", kept, kept), ("or", kept, broken), ("or", broken, kept))
            self.check_broken(
                world, ("and", kept, broken), ("and", broken, kept), ("and", broken, broken), ("or", broken, broken))

    def test_sayings_within_one_another(self):
        chance = random.Random(14)
        answers = []
        for size in SIZES:
            for world in model.some_worlds(WORDS, size, 100, chance):
                for depth in (0, 1, 2, 3, 4):
                    answers.append(self.check(WORDS, world, model.some_saying(WORDS, depth, chance)))
        self.assertEqual({True, False}, set(answers))

    def test_thirty_within_one_another(self):
        world = world_with(2, 0, [(0, 1)])
        for sort, start in (("and", ("some", R)), ("or", ("no", R)), ("not", ("some", R))):
            saying = start
            for place in range(28):
                saying = (sort, saying) if sort == "not" else (sort, saying, start)
                self.check(WORDS, world, saying)

    def test_sixty_facts(self):
        world = world_with(2, 0, [(0, 1)])
        facts = [("least", limit % 3, R) for limit in range(60)]
        while len(facts) > 1:
            facts = [("and",) + tuple(facts[place:place + 2]) if place + 1 < len(facts) else facts[place]
                     for place in range(0, len(facts), 2)]
        self.check_broken(world, facts[0])
        self.check_kept(world, ("not", facts[0]))


if __name__ == "__main__":
    unittest.main()
