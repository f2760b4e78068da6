"""Promises 12 to 14, with 2: what part-known worlds tell of expressions and sayings."""

import itertools
import random
import unittest

import model
from worldfind.bounds import bounds, told
from worldfind.sayings import keeps, value

SIZES = range(5)
WORDS = (("k",), ("r", "s"))
SMALL_WORDS = (("k",), ("r",))
K, R, S = ("name", "k"), ("name", "r"), ("name", "s")
TRUTHS = (True, False, None)


def number(size, *pairs):
    return model.number_from_pairs(size, pairs)


def part_of_ties(size, low, high, other_low=(), other_high=()):
    """The part-known world whose tie r lies between the pairs of low and of high, and s between the others."""
    lows = (number(size, *low), number(size, *other_low))
    highs = (number(size, *high), number(size, *other_high))
    return ((size, (0,), lows), (size, (0,), highs))


class Case(unittest.TestCase):
    def check_bounds(self, words, part, expression):
        answer = bounds(words, part, expression)
        self.assertEqual([type(answer)] + [type(tie) for tie in answer], [tuple, int, int], (part, expression))
        must, may = model.must_and_may(words, part, expression)
        size = part[0][0]
        expected = (model.number_from_pairs(size, must), model.number_from_pairs(size, may))
        self.assertEqual(answer, expected, (part, expression))
        return answer

    def check_told(self, words, part, saying):
        answer = told(words, part, saying)
        self.assertIs(answer, model.truth_of(words, part, saying), (part, saying))
        return answer


class Bounds(Case):
    def test_each_rule_written_out(self):
        part = (
            (3, (0b001,), (number(3, (0, 1)), number(3, (1, 2)))),
            (3, (0b101,), (number(3, (0, 1), (1, 2)), number(3, (1, 2), (2, 0), (0, 1)))),
        )
        expected = {
            K: ([(0, 0)], [(0, 0), (2, 2)]),
            R: ([(0, 1)], [(0, 1), (1, 2)]),
            ("same",): ([(0, 0), (1, 1), (2, 2)],) * 2,
            ("all",): (sorted(model.all_pairs(3)),) * 2,
            ("none",): ([], []),
            ("plus", R, S): ([(0, 1), (1, 2)], [(0, 1), (1, 2), (2, 0)]),
            ("both", R, S): ([], [(0, 1), (1, 2)]),
            ("joined", R, S): ([(0, 2)], [(0, 2), (1, 0)]),
            ("turned", R): ([(1, 0)], [(1, 0), (2, 1)]),
            ("closed", R): ([(0, 1)], [(0, 1), (0, 2), (1, 2)]),
            ("less", R, S): ([], [(0, 1)]),
            ("less", S, R): ([], [(1, 2), (2, 0)]),
            ("less", ("all",), R): (
                sorted(model.all_pairs(3) - {(0, 1), (1, 2)}), sorted(model.all_pairs(3) - {(0, 1)})),
            ("less", R, R): ([], [(1, 2)]),
        }
        for expression, (must, may) in expected.items():
            self.assertEqual(bounds(WORDS, part, expression), (number(3, *must), number(3, *may)), expression)

    def test_each_sort_in_every_part_known_world(self):
        for size in range(3):
            for part in model.all_parts(SMALL_WORDS, size):
                for expression in model.flat_expressions(SMALL_WORDS):
                    self.check_bounds(SMALL_WORDS, part, expression)

    def test_each_sort_at_greater_sizes(self):
        chance = random.Random(31)
        for size in SIZES:
            for part in [model.open_part(WORDS, size)] + [model.some_part(WORDS, size, chance) for place in range(40)]:
                for expression in model.flat_expressions(WORDS):
                    self.check_bounds(WORDS, part, expression)

    def test_within_one_another(self):
        chance = random.Random(32)
        for size in SIZES:
            for place in range(150):
                part = model.some_part(WORDS, size, chance)
                for depth in (2, 3, 4, 5):
                    self.check_bounds(WORDS, part, model.some_expression(WORDS, depth, chance))

    def test_less_turns_the_second_one_round_at_each_depth(self):
        chance = random.Random(33)
        for size in range(1, 5):
            for place in range(60):
                part = model.some_part(WORDS, size, chance)
                once = ("less", ("all",), R)
                twice = ("less", ("all",), once)
                thrice = ("less", ("all",), twice)
                whole = 2 ** (size * size) - 1
                must, may = self.check_bounds(WORDS, part, R)
                self.assertEqual(self.check_bounds(WORDS, part, once), (whole - may, whole - must))
                self.assertEqual(self.check_bounds(WORDS, part, twice), (must, may))
                self.assertEqual(self.check_bounds(WORDS, part, thrice), (whole - may, whole - must))

    def test_of_one_world_must_and_may_are_the_value(self):
        chance = random.Random(34)
        for size in SIZES:
            for world in model.some_worlds(WORDS, size, 60, chance):
                expressions = [model.some_expression(WORDS, depth, chance) for depth in (1, 2, 3, 4)]
                for expression in model.flat_expressions(WORDS) + expressions:
                    one = value(WORDS, world, expression)
                    self.assertEqual(bounds(WORDS, (world, world), expression), (one, one), (world, expression))

    def test_the_value_lies_between_in_every_world_that_does(self):
        chance = random.Random(35)
        for size in range(3):
            worlds = model.all_worlds(SMALL_WORDS, size)
            for part in model.all_parts(SMALL_WORDS, size):
                expressions = [model.some_expression(SMALL_WORDS, depth, chance) for depth in (1, 2, 3)]
                found = [(one, bounds(SMALL_WORDS, part, one)) for one in expressions]
                for world in [world for world in worlds if model.lies_between(part, world)]:
                    for expression, (must, may) in found:
                        one = value(SMALL_WORDS, world, expression)
                        self.assertEqual((one & must, one | may), (must, may), (part, world, expression))

    def test_the_value_lies_between_at_greater_sizes(self):
        chance = random.Random(36)
        for size in (3, 4):
            for place in range(150):
                part = model.some_part(WORDS, size, chance)
                for depth in (1, 2, 3, 4):
                    expression = model.some_expression(WORDS, depth, chance)
                    must, may = bounds(WORDS, part, expression)
                    for world in self.some_between(WORDS, part, chance):
                        one = value(WORDS, world, expression)
                        self.assertEqual((one & must, one | may), (must, may), (part, world, expression))

    def some_between(self, words, part, chance):
        low, high = part
        worlds = [low, high]
        for place in range(4):
            parts = [
                one | other & chance.randrange(2 ** 16)
                for one, other in zip(low[1] + low[2], high[1] + high[2])
            ]
            worlds.append((low[0], tuple(parts[:len(words[0])]), tuple(parts[len(words[0]):])))
        return worlds


class Told(Case):
    def check_truths(self, part, *sayings_and_truths):
        for saying, truth in sayings_and_truths:
            self.assertIs(told(WORDS, part, saying), truth, saying)

    def test_in(self):
        part = part_of_ties(2, [(0, 0)], [(0, 0), (0, 1)], [(0, 0), (0, 1)], [(0, 0), (0, 1), (1, 0)])
        self.check_truths(part, (("in", R, S), True), (("in", S, R), None), (("in", R, R), None))
        part = part_of_ties(2, [(0, 0)], [(0, 0), (0, 1)], [], [(0, 1), (1, 1)])
        self.check_truths(part, (("in", R, S), False), (("in", S, R), None))
        part = part_of_ties(2, [], [(0, 0)], [], [(1, 1)])
        self.check_truths(part, (("in", R, S), None), (("in", S, R), None), (("in", R, ("all",)), True))
        self.check_truths(part, (("in", ("all",), R), False), (("in", ("none",), R), True))
        part = part_of_ties(2, [], [], [], [(1, 1)])
        self.check_truths(part, (("in", R, S), True), (("in", S, R), None))

    def test_equal(self):
        whole, none = ("all",), ("none",)
        part = part_of_ties(2, [(0, 0)], [(0, 0)], [(0, 0)], [(0, 0)])
        self.check_truths(part, (("equal", R, S), True), (("equal", R, whole), False), (("equal", none, R), False))
        part = part_of_ties(2, [(0, 0)], [(0, 0)], [(0, 0)], [(0, 0), (1, 1)])
        self.check_truths(part, (("equal", R, S), None), (("equal", S, R), None), (("equal", S, S), None))
        part = part_of_ties(2, [], [(0, 0)], [(0, 1)], [(0, 1), (0, 0)])
        self.check_truths(part, (("equal", R, S), False), (("equal", S, R), False))

    def test_some_and_no(self):
        for size in range(1, 5):
            pair = (size - 1, 0)
            bare, part = part_of_ties(size, [], []), part_of_ties(size, [], [pair])
            known = part_of_ties(size, [pair], [pair, (0, 0)])
            self.check_truths(bare, (("some", R), False), (("no", R), True))
            self.check_truths(part, (("some", R), None), (("no", R), None))
            self.check_truths(known, (("some", R), True), (("no", R), False))

    def test_least_and_most(self):
        part = part_of_ties(2, [(0, 0)], [(0, 0), (0, 1), (1, 0)])
        expected = [(0, True, False), (1, True, None), (2, None, None), (3, None, True), (4, False, True)]
        for limit, least, most in expected + [(99, False, True)]:
            self.check_truths(part, (("least", limit, R), least), (("most", limit, R), most))

    def test_least_and_most_at_every_edge(self):
        for size in SIZES:
            order = sorted(model.all_pairs(size))
            for low, high in itertools.combinations_with_replacement(range(size * size + 1), 2):
                part = part_of_ties(size, order[:low], order[:high])
                for limit in {0, low - 1, low, low + 1, high - 1, high, high + 1, 99} - {-1}:
                    least = True if low >= limit else False if high < limit else None
                    most = True if high <= limit else False if low > limit else None
                    self.check_truths(part, (("least", limit, R), least), (("most", limit, R), most))

    def test_each_least_and_each_most(self):
        part = part_of_ties(2, [(0, 0), (1, 0)], [(0, 0), (1, 0), (1, 1)])
        for limit, least, most in ((0, True, False), (1, True, None), (2, False, True), (3, False, True)):
            self.check_truths(part, (("eachleast", limit, R), least), (("eachmost", limit, R), most))
        part = part_of_ties(2, [(1, 0)], [(0, 0), (1, 0), (1, 1), (0, 1)])
        for limit, least, most in ((0, True, False), (1, None, None), (2, None, True), (3, False, True)):
            self.check_truths(part, (("eachleast", limit, R), least), (("eachmost", limit, R), most))

    def test_each_at_every_thing(self):
        for size in range(1, 5):
            for odd in range(size):
                for low, high in itertools.combinations_with_replacement(range(size + 1), 2):
                    for other in range(size + 1):
                        self.check_each_with_one_odd(size, odd, low, high, other)

    def check_each_with_one_odd(self, size, odd, low, high, other):
        others = [(a, b) for a in range(size) if a != odd for b in range(other)]
        part = part_of_ties(
            size, others + [(odd, b) for b in range(low)], others + [(odd, b) for b in range(high)])
        for limit in range(size + 2):
            self.check_told(WORDS, part, ("eachleast", limit, R))
            self.check_told(WORDS, part, ("eachmost", limit, R))

    def test_without_things_an_each_is_true(self):
        part = part_of_ties(0, [], [])
        for limit in (0, 1, 2, 99):
            for expression in (R, K, ("all",), ("same",), ("none",)):
                self.check_truths(
                    part, (("eachleast", limit, expression), True), (("eachmost", limit, expression), True),
                    (("not", ("eachleast", limit, expression)), False), (("most", limit, expression), True),
                    (("least", limit, expression), limit == 0), (("in", expression, R), True),
                    (("equal", expression, R), True), (("some", expression), False), (("no", expression), True))

    def test_not_and_or(self):
        facts = {True: ("some", ("all",)), False: ("some", ("none",)), None: ("some", R)}
        for size in range(1, 5):
            part = model.open_part(WORDS, size)
            for one in TRUTHS:
                self.assertIs(told(WORDS, part, facts[one]), one)
                self.assertIs(told(WORDS, part, ("not", facts[one])), None if one is None else not one)
                self.assertIs(told(WORDS, part, ("not", ("not", facts[one]))), one)
                for other in TRUTHS:
                    pair = (facts[one], facts[other])
                    both = False if False in (one, other) else None if None in (one, other) else True
                    either = True if True in (one, other) else None if None in (one, other) else False
                    self.assertIs(told(WORDS, part, ("and",) + pair), both)
                    self.assertIs(told(WORDS, part, ("or",) + pair), either)

    def test_open_although_all_worlds_agree(self):
        for size in range(1, 5):
            part = model.open_part(WORDS, size)
            for saying in (("in", R, R), ("equal", R, R), ("no", ("less", R, R)), ("or", ("some", R), ("no", R)),
                           ("and", ("some", R), ("no", R)), ("in", R, ("closed", R))):
                self.assertIs(told(WORDS, part, saying), None, saying)

    def test_each_sort_of_fact_in_every_part_known_world(self):
        expressions = [K, R, ("all",), ("none",), ("less", ("all",), R), ("closed", R), ("joined", R, K)]
        answers = {}
        for size in range(3):
            for part in model.all_parts(SMALL_WORDS, size):
                for saying in self.facts(expressions, size):
                    answer = self.check_told(SMALL_WORDS, part, saying)
                    answers.setdefault(saying[0], []).append(answer)
        for sort, told_answers in answers.items():
            self.assertEqual([truth for truth in TRUTHS if truth in told_answers], list(TRUTHS), sort)

    def facts(self, expressions, size):
        facts = [(sort, one) for sort in ("some", "no") for one in expressions]
        facts += [(sort, one, other) for sort in ("in", "equal") for one in expressions for other in expressions]
        limits = range(size * size + 2)
        return facts + [(sort, limit, one) for sort in model.COUNTS for limit in limits for one in expressions]

    def test_sayings_within_one_another(self):
        chance = random.Random(41)
        for size in SIZES:
            for place in range(200):
                part = model.some_part(WORDS, size, chance)
                for depth in (0, 1, 2, 3, 4):
                    self.check_told(WORDS, part, model.some_saying(WORDS, depth, chance))

    def test_of_one_world_true_just_where_it_keeps(self):
        chance = random.Random(42)
        for size in SIZES:
            for world in model.some_worlds(WORDS, size, 120, chance):
                for depth in (0, 0, 1, 2, 3, 4):
                    saying = model.some_saying(WORDS, depth, chance)
                    self.assertIs(told(WORDS, (world, world), saying), keeps(WORDS, world, saying), (world, saying))

    def test_told_true_is_kept_by_all_between_and_told_false_by_none(self):
        chance = random.Random(43)
        answers = []
        for size in range(3):
            worlds = model.all_worlds(SMALL_WORDS, size)
            for part in model.all_parts(SMALL_WORDS, size):
                between = [world for world in worlds if model.lies_between(part, world)]
                for depth in (0, 1, 2, 3):
                    saying = model.some_saying(SMALL_WORDS, depth, chance)
                    answer = told(SMALL_WORDS, part, saying)
                    answers.append(answer)
                    if answer is not None:
                        kept = [keeps(SMALL_WORDS, world, saying) for world in between]
                        self.assertEqual(kept, [answer] * len(between), (part, saying))
        self.assertEqual([truth for truth in TRUTHS if truth in answers], list(TRUTHS))


if __name__ == "__main__":
    unittest.main()
