"""Promises 19 and 20, with 2: renamings, renamed worlds, forms and likenesses."""

import itertools
import math
import random
import unittest

import model
from worldfind.errors import NoRenaming, NoSize
from worldfind.likeness import alike, back, form, likenesses, renamed, renamings, then
from worldfind.sayings import keeps

SIZES = range(5)
NO_SIZES = [-1, -2, 5, 6, -(10 ** 50), 10 ** 50, True, False, None, "0", "1", "", 0.0, 2.0, (), (1,), [], [2], {}]
WORDS = (("k", "l"), ("r", "s"))
SMALL_WORDS = (("k",), ("r",))
BIG_WORDS = (("a", "b", "c", "d"), ("e", "f", "g", "h"))
ALL_SORTS = [((), ()), (("k",), ()), ((), ("r",)), SMALL_WORDS, WORDS, BIG_WORDS]


class Renamings(unittest.TestCase):
    def test_written_out(self):
        self.assertEqual(renamings(0), [()])
        self.assertEqual(renamings(1), [(0,)])
        self.assertEqual(renamings(2), [(0, 1), (1, 0)])
        self.assertEqual(renamings(3), [(0, 1, 2), (0, 2, 1), (1, 0, 2), (1, 2, 0), (2, 0, 1), (2, 1, 0)])

    def test_all_of_each_size_sorted(self):
        for size in SIZES:
            rows = renamings(size)
            self.assertIs(type(rows), list)
            self.assertEqual([type(row) for row in rows], [tuple] * len(rows))
            self.assertEqual({type(thing) for row in rows for thing in row}, {int} if size else set())
            expected = [row for row in itertools.product(range(size), repeat=size) if len(set(row)) == size]
            self.assertEqual(rows, sorted(expected))
            self.assertEqual(len(rows), math.factorial(size))

    def test_no_size_is_refused(self):
        for size in NO_SIZES:
            with self.assertRaises(NoSize, msg=size):
                renamings(size)

    def test_list_that_was_told_is_the_asker_s_own(self):
        for size in SIZES:
            rows = renamings(size)
            kept = list(rows)
            rows.reverse()
            rows.append("more")
            self.assertEqual(renamings(size), kept)
            renamings(size).clear()
            self.assertEqual(renamings(size), kept)

    def test_first_the_one_then_the_other(self):
        self.assertEqual(then((1, 2, 0), (1, 0, 2)), (0, 2, 1))
        self.assertEqual(then((1, 0, 2), (1, 2, 0)), (2, 1, 0))
        for size in SIZES:
            for one, other in itertools.product(model.all_renamings(size), repeat=2):
                both = then(one, other)
                self.assertIs(type(both), tuple)
                self.assertEqual(both, tuple(other[one[a]] for a in range(size)))

    def test_taken_back(self):
        self.assertEqual(back((1, 2, 0)), (2, 0, 1))
        self.assertEqual(back((1, 2, 3, 0)), (3, 0, 1, 2))
        for size in SIZES:
            stay = tuple(range(size))
            for one in model.all_renamings(size):
                self.assertIs(type(back(one)), tuple)
                self.assertEqual((then(one, back(one)), then(back(one), one), back(back(one))), (stay, stay, one))
                self.assertEqual((then(one, stay), then(stay, one)), (one, one))

    def test_back_and_then_with_one_another(self):
        for size in SIZES:
            rows = model.all_renamings(size)
            for one, other in itertools.product(rows, repeat=2):
                self.assertEqual(back(then(one, other)), then(back(other), back(one)))
            for one, other, third in itertools.product(rows[::3], repeat=3):
                self.assertEqual(then(then(one, other), third), then(one, then(other, third)))


class Renamed(unittest.TestCase):
    def no_renamings(self, size):
        """Things of many kinds that are no renaming of the size."""
        right = tuple(range(size))
        things = [None, True, False, 0, 1, size, -1, 0.5, "", "0", "0123"[:size] or "a", b"", [], {}, {0: 0}]
        things += [list(right), [right], (right,), set(right), range(size), dict.fromkeys(right), iter(right)]
        things += [int, object()]
        things += [right + (size,), right + (0,), (0,) + right, right + (None,)]
        for other in SIZES:
            if other != size:
                things += model.all_renamings(other)
        if size > 0:
            things += [right[1:], right[:-1], tuple(a + 1 for a in right), tuple(a - 1 for a in right)]
            things += [tuple(float(a) for a in right), tuple(str(a) for a in right), tuple([a] for a in right)]
            things += [tuple((a,) for a in right), (None,) * size, tuple(-a for a in right) if size > 1 else (-1,)]
            for place in range(size):
                wrongs = [size, size + 1, -1, 10 ** 50, None, True, False, (), str(place), float(place), (place,)]
                things += [right[:place] + (wrong,) + right[place + 1:] for wrong in wrongs + [[place]]]
        if size > 1:
            rows = itertools.product(range(size), repeat=size)
            things += [row for row in rows if len(set(row)) < size]
        return things

    def test_written_out(self):
        words = (("k",), ("r",))
        world = (3, (0b001,), (model.number_from_pairs(3, [(0, 1), (1, 2), (2, 2)]),))
        expected = (3, (0b010,), (model.number_from_pairs(3, [(1, 2), (2, 0), (0, 0)]),))
        self.assertEqual(renamed(words, world, (1, 2, 0)), expected)
        back_again = (3, (0b100,), (model.number_from_pairs(3, [(2, 0), (0, 1), (1, 1)]),))
        self.assertEqual(renamed(words, world, (2, 0, 1)), back_again)

    def test_each_thing_of_a_kind_and_each_pair_of_a_tie(self):
        for size in SIZES:
            for renaming in model.all_renamings(size):
                for a in range(size):
                    world = renamed((("k", "l"), ()), (size, (0, 2 ** a), ()), renaming)
                    self.assertEqual(world, (size, (0, 2 ** renaming[a]), ()))
                    for b in range(size):
                        tie = model.number_from_pairs(size, [(a, b)])
                        other = model.number_from_pairs(size, [(renaming[a], renaming[b])])
                        world = renamed(((), ("r", "s")), (size, (), (tie, 0)), renaming)
                        self.assertEqual(world, (size, (), (other, 0)))

    def test_against_sets_of_pairs(self):
        chance = random.Random(71)
        for words in ALL_SORTS:
            for size in SIZES:
                for world in model.some_worlds(words, size, 40, chance):
                    for renaming in model.all_renamings(size):
                        answer = renamed(words, world, renaming)
                        self.assertEqual(answer, model.world_renamed(words, world, renaming))
                        self.assertEqual([type(answer)] + [type(part) for part in answer], [tuple, int, tuple, tuple])

    def test_one_after_the_other_and_back(self):
        chance = random.Random(72)
        for size in SIZES:
            rows = model.all_renamings(size)
            for world in model.some_worlds(WORDS, size, 8, chance):
                self.assertEqual(renamed(WORDS, world, tuple(range(size))), world)
                for one, other in itertools.product(rows, rows[::2]):
                    both = renamed(WORDS, renamed(WORDS, world, one), other)
                    self.assertEqual(renamed(WORDS, world, then(one, other)), both)
                    self.assertEqual(renamed(WORDS, renamed(WORDS, world, one), back(one)), world)

    def test_what_is_no_renaming_is_refused(self):
        chance = random.Random(73)
        for words in (((), ()), SMALL_WORDS, WORDS):
            for size in SIZES:
                for world in model.some_worlds(words, size, 2, chance):
                    for thing in self.no_renamings(size):
                        with self.assertRaises(NoRenaming, msg=(size, thing)):
                            renamed(words, world, thing)

    def test_list_handed_in_stays(self):
        handed = [2, 0, 1]
        with self.assertRaises(NoRenaming):
            renamed(SMALL_WORDS, (3, (1,), (2,)), handed)
        self.assertEqual(handed, [2, 0, 1])


class Alike(unittest.TestCase):
    def some_worlds(self, chance):
        for words in ALL_SORTS:
            for size in SIZES:
                for world in model.some_worlds(words, size, 20, chance):
                    yield words, world

    def test_form_written_out(self):
        self.assertEqual(form((("k",), ()), (3, (0b100,), ())), (3, (0b001,), ()))
        self.assertEqual(form((("k", "l"), ()), (3, (0b100, 0b010), ())), (3, (0b010, 0b001), ()))
        self.assertEqual(form(((), ("r",)), (2, (), (4,))), (2, (), (2,)))
        self.assertEqual(form(SMALL_WORDS, (2, (1,), (8,))), (2, (2,), (1,)))
        self.assertEqual(form(WORDS, (0, (0, 0), (0, 0))), (0, (0, 0), (0, 0)))

    def test_form_has_the_least_code_of_all_worlds_alike(self):
        for words, world in self.some_worlds(random.Random(74)):
            self.assertEqual(form(words, world), model.least_alike(words, world))
            self.assertEqual(form(words, form(words, world)), form(words, world))

    def test_form_of_every_small_world(self):
        for words, most in (((("k", "l"), ()), 4), (((), ("r",)), 3), (SMALL_WORDS, 2)):
            for size in range(most + 1):
                for world in model.all_worlds(words, size):
                    answer = form(words, world)
                    self.assertEqual(answer, model.least_alike(words, world))
                    self.assertEqual([type(answer)] + [type(part) for part in answer], [tuple, int, tuple, tuple])

    def test_first_renaming_in_the_order_of_the_list(self):
        chance = random.Random(75)
        for words, world in self.some_worlds(chance):
            for renaming in chance.sample(model.all_renamings(world[0]), min(3, math.factorial(world[0]))):
                other = model.world_renamed(words, world, renaming)
                rows = [row for row in model.all_renamings(world[0]) if model.world_renamed(words, world, row) == other]
                self.assertEqual(alike(words, world, other), rows[0])
                self.assertIs(type(alike(words, world, other)), tuple)
                self.assertEqual(form(words, world), form(words, other))

    def test_two_of_every_small_world(self):
        told = []
        for words, size in (((("k", "l"), ()), 3), (((), ("r",)), 2), (SMALL_WORDS, 2), (SMALL_WORDS, 1), (WORDS, 0)):
            worlds = model.all_worlds(words, size)
            for one, other in itertools.product(worlds, repeat=2):
                rows = [row for row in model.all_renamings(size) if model.world_renamed(words, one, row) == other]
                answer = alike(words, one, other)
                self.assertEqual(answer, rows[0] if rows else None)
                self.assertEqual(form(words, one) == form(words, other), answer is not None)
                told.append(answer)
        self.assertEqual({None, (0,), (0, 1), (1, 0), (), (2, 0, 1), (1, 2, 0)} - set(told), set())

    def test_made_the_other_of_the_one_and_not_the_one_of_the_other(self):
        one, other = (3, (0b001,), (0b000000010,)), model.world_renamed(SMALL_WORDS, (3, (0b001,), (2,)), (1, 2, 0))
        self.assertEqual(alike(SMALL_WORDS, one, other), (1, 2, 0))
        self.assertEqual(alike(SMALL_WORDS, other, one), (2, 0, 1))

    def test_not_alike(self):
        self.assertIs(alike((("k",), ()), (3, (0b001,), ()), (3, (0b011,), ())), None)
        self.assertIs(alike((("k", "l"), ()), (2, (1, 1), ()), (2, (1, 2), ())), None)
        self.assertIs(alike((("k", "l"), ()), (2, (1, 0), ()), (2, (0, 1), ())), None)
        self.assertIs(alike(((), ("r",)), (2, (), (1,)), (2, (), (2,))), None)

    def test_of_unlike_sizes_never(self):
        for words in ALL_SORTS:
            for one, other in itertools.permutations(SIZES, 2):
                for value in (0, 1):
                    first = model.parts_of_world(words, one, value if one else 0)
                    second = model.parts_of_world(words, other, value if other else 0)
                    self.assertIs(alike(words, first, second), None)
                    self.assertNotEqual(form(words, first), form(words, second))

    def test_likenesses_written_out(self):
        self.assertEqual(likenesses((("k",), ()), (3, (0b010,), ())), [(0, 1, 2), (2, 1, 0)])
        self.assertEqual(likenesses(((), ("r",)), (3, (), (model.number_from_pairs(3, [(0, 1), (1, 2), (2, 0)]),))),
                         [(0, 1, 2), (1, 2, 0), (2, 0, 1)])
        self.assertEqual(likenesses(((), ()), (2, (), ())), [(0, 1), (1, 0)])
        self.assertEqual(likenesses(((), ()), (0, (), ())), [()])

    def test_likenesses_are_all_of_them_sorted(self):
        for words, world in self.some_worlds(random.Random(76)):
            rows = [row for row in model.all_renamings(world[0]) if model.world_renamed(words, world, row) == world]
            answer = likenesses(words, world)
            self.assertEqual(answer, sorted(rows))
            self.assertIs(type(answer), list)

    def test_how_many_are_alike(self):
        for words, world in self.some_worlds(random.Random(77)):
            number, rest = divmod(math.factorial(world[0]), len(likenesses(words, world)))
            self.assertEqual((number, rest), (len(model.worlds_alike(words, world)), 0))

    def test_list_that_was_told_is_the_asker_s_own(self):
        world = (3, (0b010,), (0,))
        rows = likenesses(SMALL_WORDS, world)
        kept = list(rows)
        rows.reverse()
        rows.append("more")
        self.assertEqual(likenesses(SMALL_WORDS, world), kept)
        likenesses(SMALL_WORDS, world).clear()
        self.assertEqual((likenesses(SMALL_WORDS, world), world), (kept, (3, (0b010,), (0,))))

    def test_worlds_alike_keep_the_same_sayings(self):
        chance = random.Random(78)
        for words, world in self.some_worlds(chance):
            for depth in (0, 1, 2):
                saying = model.some_saying(words, depth, chance)
                kept = keeps(words, world, saying)
                for renaming in chance.sample(model.all_renamings(world[0]), 1):
                    self.assertIs(keeps(words, renamed(words, world, renaming), saying), kept)
                self.assertIs(keeps(words, form(words, world), saying), kept)


if __name__ == "__main__":
    unittest.main()
