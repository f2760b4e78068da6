"""Promises 6 and 7, with 2 and 4: words, bits, and the codes of worlds."""

import itertools
import unittest

from worldfind.errors import NoCode, NoName, NoSize
from worldfind.worlds import bits, code, words_of, world_of

SIZES = range(5)
NAMES = ["d", "boss", "abcdefgh", "likes"]
MORE = ["z", "a", "parents", "zzzzzzzz"]
TAKEN = "some no least most each in and or not same all none kind tie say".split()
WRONG_NAMES = [
    "", "abcdefghi", "abcdefghijklmnop", "A", "Ab", "aB", "abC", "abcdefgH", "1", "1a", "a1", "a1b",
    " ", " a", "a ", "a b", "_", "_a", "a_", "a_b", "a-b", "a.b", "a\n", "\na", "\t", "a\tb", "~", "`", "{",
    "@", "[", "a{b",
]
NO_TEXTS = [
    0, 1, -1, None, True, False, (), ("a",), [], ["a"], {}, {"a": 1}, 1.5, b"a",
]
NO_SIZES = [
    -1, -2, 5, 6, 100, -(10 ** 50), 10 ** 50, True, False, None, "0", "1", "", 0.0, 2.0, (), (1,), [], [2], {},
]
NO_CODES_OF_ANY_KIND = [True, False, None, "0", "", 0.0, 1.0, (), (0,), [], [0], {}]


def words_with(kinds, ties):
    return words_of(NAMES[:kinds], MORE[:ties])


def all_words():
    return [words_with(kinds, ties) for kinds, ties in itertools.product(range(5), repeat=2)]


class MakingWords(unittest.TestCase):
    def check_refused(self, kinds, ties):
        before = (list(kinds), list(ties))
        with self.assertRaises(NoName, msg=(kinds, ties)):
            words_of(kinds, ties)
        self.assertEqual((kinds, ties), before)

    def test_names_in_any_order_make_two_sorted_tuples(self):
        for number in range(5):
            for kinds in itertools.permutations(NAMES, number):
                for ties in itertools.permutations(MORE[:3]):
                    handed = (list(kinds), list(ties))
                    words = words_of(*handed)
                    self.assertEqual(words, (tuple(sorted(kinds)), tuple(sorted(ties))))
                    self.assertEqual([type(words)] + [type(part) for part in words], [tuple] * 3)
                    self.assertEqual(handed, (list(kinds), list(ties)))
                    self.assertEqual(words_of(list(ties), list(kinds)), words[::-1])

    def test_written_out(self):
        self.assertEqual(words_of(["man", "boy"], ["son"]), (("boy", "man"), ("son",)))
        self.assertEqual(words_of([], ["b", "a", "ab"]), ((), ("a", "ab", "b")))

    def test_what_is_told_is_not_changed_by_the_lists(self):
        kinds = ["b", "a"]
        ties = ["c"]
        words = words_of(kinds, ties)
        kinds.append("e")
        ties.clear()
        self.assertEqual(words, (("a", "b"), ("c",)))

    def test_without_names(self):
        self.assertEqual(words_of([], []), ((), ()))
        self.assertEqual(words_of(["a"], []), (("a",), ()))
        self.assertEqual(words_of([], ["a"]), ((), ("a",)))

    def test_one_and_eight_letters(self):
        for letter in "abcdefghijklmnopqrstuvwxyz":
            for length in range(1, 9):
                name = letter * length
                self.assertEqual(words_of([name], []), ((name,), ()))
                self.assertEqual(words_of([], [name]), ((), (name,)))
            self.check_refused([letter * 9], [])
            self.check_refused([], [letter * 9])

    def test_four_names_but_no_fifth(self):
        four = ["a", "b", "c", "d"]
        others = ["e", "f", "g", "h"]
        self.assertEqual(words_of(four, others), (tuple(four), tuple(others)))
        for rest in ([], ["x"], others):
            for place in range(5):
                five = four[:place] + ["i"] + four[place:]
                self.check_refused(five, rest)
                self.check_refused(rest, five)

    def check_refused_anywhere(self, wrong):
        for right in ([], ["a"], ["b", "a", "c"]):
            for place in range(len(right) + 1):
                names = right[:place] + [wrong] + right[place:]
                self.check_refused(names, ["x"])
                self.check_refused(["x"], names)
                self.check_refused(names, [])
                self.check_refused([], names)

    def test_no_name_is_refused(self):
        for wrong in WRONG_NAMES:
            self.check_refused_anywhere(wrong)

    def test_another_sign_at_any_place(self):
        for length in range(1, 9):
            for place in range(length):
                for sign in "AZ09 _-`{@[\n":
                    name = "a" * place + sign + "a" * (length - place - 1)
                    self.check_refused([name], [])
                    self.check_refused([], [name])

    def test_taken_words_are_refused(self):
        for wrong in TAKEN:
            self.check_refused_anywhere(wrong)

    def test_near_taken_words_are_names(self):
        for taken in TAKEN:
            for name in (taken + "x", "x" + taken, taken[:-1] + "q"):
                self.assertEqual(words_of([name], []), ((name,), ()))
        for name in ("plus", "less", "both", "joined", "turned", "closed", "equal", "every", "name"):
            self.assertEqual(words_of([], [name]), ((), (name,)))

    def test_what_is_no_text_is_refused(self):
        for wrong in NO_TEXTS:
            self.check_refused_anywhere(wrong)
            self.check_refused([wrong, wrong], [])
            self.check_refused([wrong], [wrong])

    def test_told_twice_is_refused(self):
        self.check_refused(["a", "a"], [])
        self.check_refused([], ["a", "a"])
        self.check_refused(["a"], ["a"])
        self.check_refused(["a", "b", "a"], ["c"])
        self.check_refused(["c"], ["b", "d", "b"])
        for kind in range(4):
            for tie in range(4):
                self.check_refused(NAMES, MORE[:tie] + [NAMES[kind]] + MORE[tie + 1:])


class Bits(unittest.TestCase):
    def test_size_for_each_kind_and_its_square_for_each_tie(self):
        for size in SIZES:
            for kinds, ties in itertools.product(range(5), repeat=2):
                answer = bits(words_with(kinds, ties), size)
                self.assertIs(type(answer), int)
                self.assertEqual(answer, size * kinds + size * size * ties)

    def test_written_out(self):
        self.assertEqual(bits((("a", "b"), ("c",)), 3), 15)
        self.assertEqual(bits(words_with(4, 4), 4), 80)
        self.assertEqual(bits(words_with(0, 0), 4), 0)


class Codes(unittest.TestCase):
    def check_world(self, words, world, size):
        self.assertIs(type(world), tuple)
        self.assertEqual([type(part) for part in world], [int, tuple, tuple])
        self.assertEqual(world[0], size)
        self.assertEqual((len(world[1]), len(world[2])), (len(words[0]), len(words[1])))
        for parts, width in ((world[1], size), (world[2], size * size)):
            for part in parts:
                self.assertIs(type(part), int)
                self.assertTrue(0 <= part < 2 ** width, (words, world))

    def check_both_ways(self, words, size, number):
        world = world_of(words, size, number)
        self.check_world(words, world, size)
        answer = code(words, world)
        self.assertIs(type(answer), int)
        self.assertEqual(answer, number)
        return world

    def test_each_is_the_other_s_reverse_over_all_codes(self):
        for words in all_words():
            for size in SIZES:
                if bits(words, size) <= 10:
                    number = 2 ** bits(words, size)
                    worlds = [self.check_both_ways(words, size, place) for place in range(number)]
                    self.assertEqual(len(set(worlds)), number)

    def test_code_of_each_world_tells_it_again(self):
        words = words_of(["a", "b"], ["c"])
        for size in range(3):
            kinds = range(2 ** size)
            for parts in itertools.product(kinds, kinds, range(2 ** (size * size))):
                world = (size, parts[:2], parts[2:])
                self.assertEqual(world_of(words, size, code(words, world)), world)

    def test_least_and_greatest_code(self):
        for words in all_words():
            for size in SIZES:
                last = 2 ** bits(words, size) - 1
                full = (size, (2 ** size - 1,) * len(words[0]), (2 ** (size * size) - 1,) * len(words[1]))
                bare = (size, (0,) * len(words[0]), (0,) * len(words[1]))
                self.assertEqual(self.check_both_ways(words, size, 0), bare)
                self.assertEqual(self.check_both_ways(words, size, last), full)

    def test_kinds_ahead_of_ties_and_the_first_one_lowest(self):
        words = words_of(["a", "b"], ["c", "d"])
        self.assertEqual(code(words, (2, (1, 0), (0, 0))), 1)
        self.assertEqual(code(words, (2, (0, 1), (0, 0))), 4)
        self.assertEqual(code(words, (2, (0, 0), (1, 0))), 16)
        self.assertEqual(code(words, (2, (0, 0), (0, 1))), 256)
        self.assertEqual(code(words, (2, (2, 3), (9, 6))), 2 + 3 * 4 + 9 * 16 + 6 * 256)
        self.assertEqual(world_of(words, 2, 2 + 3 * 4 + 9 * 16 + 6 * 256), (2, (2, 3), (9, 6)))

    def test_each_bit_has_its_place(self):
        for words in all_words():
            for size in SIZES:
                widths = [size] * len(words[0]) + [size * size] * len(words[1])
                place = 0
                for number, width in enumerate(widths):
                    for bit in range(width):
                        parts = [0] * len(widths)
                        parts[number] = 2 ** bit
                        world = (size, tuple(parts[:len(words[0])]), tuple(parts[len(words[0]):]))
                        self.assertEqual(code(words, world), 2 ** place)
                        self.assertEqual(world_of(words, size, 2 ** place), world)
                        place += 1

    def test_words_without_names_and_size_without_things(self):
        for size in SIZES:
            self.assertEqual(world_of(((), ()), size, 0), (size, (), ()))
            self.assertEqual(code(((), ()), (size, (), ())), 0)
        words = words_of(["a"], ["b", "c"])
        self.assertEqual(world_of(words, 0, 0), (0, (0,), (0, 0)))
        self.assertEqual(code(words, (0, (0,), (0, 0))), 0)

    def test_no_code_is_refused(self):
        for words in all_words():
            for size in SIZES:
                end = 2 ** bits(words, size)
                wrong_codes = [-1, -2, -end, -end - 1, end, end + 1, 2 * end, end + 10 ** 40, -(10 ** 40)]
                for wrong in wrong_codes + NO_CODES_OF_ANY_KIND:
                    with self.assertRaises(NoCode, msg=(words, size, wrong)):
                        world_of(words, size, wrong)

    def test_no_size_is_refused(self):
        for words in (words_with(0, 0), words_with(1, 0), words_with(0, 1), words_with(4, 4)):
            for size in NO_SIZES:
                for number in (0, 1):
                    with self.assertRaises(NoSize, msg=(words, size, number)):
                        world_of(words, size, number)

    def test_no_size_comes_ahead_of_no_code(self):
        for words in (words_with(0, 0), words_with(1, 0), words_with(0, 1), words_with(4, 4)):
            for size in NO_SIZES:
                for number in [-1, 2 ** 200, -(2 ** 200)] + NO_CODES_OF_ANY_KIND:
                    with self.assertRaises(NoSize, msg=(words, size, number)):
                        world_of(words, size, number)


if __name__ == "__main__":
    unittest.main()
