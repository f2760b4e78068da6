"""Promises 4 and 5, with 2: ties and their pairs, held against the document's words."""

import itertools
import unittest

from worldfind.errors import NoPair
from worldfind.pairsets import (
    closed, common, either, every, joined, pairs_of, same, tie_of, turned, without,
)

SIZES = range(5)


def all_ties(size):
    return range(2 ** (size * size))


def some_ties(size, most):
    """The least and the greatest tie and some spread evenly between, at most `most` or so."""
    number = 2 ** (size * size)
    step = max(1, number // most)
    # An odd step, so that all bits change from one to the next.
    if step > 1 and step % 2 == 0:
        step += 1
    return sorted(set(range(0, number, step)) | {number - 1})


def all_pairs(size):
    return list(itertools.product(range(size), repeat=2))


def is_tied(size, tie, a, b):
    return (tie // 2 ** (a * size + b)) % 2 == 1


def comes_to(size, tie, a, b):
    """Whether one comes from a to b by one step or more, by walking."""
    seen = set()
    ends = [a]
    while ends:
        end = ends.pop()
        for thing in range(size):
            if is_tied(size, tie, end, thing) and thing not in seen:
                seen.add(thing)
                ends.append(thing)
    return b in seen


def wrong_things(size):
    return [
        size, size + 1, size + 100, 10 ** 30, -1, -2, -size - 1, -(10 ** 30),
        True, False, None, "0", "", "a", 0.0, 1.5, (0,), (), [0], [], {}, {0: 0},
    ]


class Case(unittest.TestCase):
    def check_tie(self, size, tie, expected, note):
        """The answer is a whole number whose pairs are just those of expected(a, b)."""
        self.assertIs(type(tie), int, note)
        self.assertTrue(0 <= tie < 2 ** (size * size), note)
        for a, b in all_pairs(size):
            self.assertEqual(is_tied(size, tie, a, b), expected(a, b), (note, a, b))


class Pairs(Case):
    def test_document_s_bits(self):
        self.assertEqual(pairs_of(0, 0), [])
        self.assertEqual(pairs_of(1, 1), [(0, 0)])
        self.assertEqual(pairs_of(2, 2), [(0, 1)])
        self.assertEqual(pairs_of(2, 4), [(1, 0)])
        self.assertEqual(pairs_of(3, 2 ** 5), [(1, 2)])
        self.assertEqual(pairs_of(4, 2 ** 3 + 2 ** 12), [(0, 3), (3, 0)])

    def test_pairs_are_the_bits_that_are_set(self):
        for size in SIZES:
            for tie in all_ties(size) if size < 4 else some_ties(4, 3000):
                expected = [pair for pair in all_pairs(size) if is_tied(size, tie, *pair)]
                self.assertEqual(pairs_of(size, tie), expected)

    def test_kinds_of_the_answer(self):
        for size in SIZES:
            pairs = pairs_of(size, 2 ** (size * size) - 1)
            self.assertIs(type(pairs), list)
            self.assertEqual(len(pairs), size * size)
            self.assertEqual(pairs, sorted(pairs))
            for pair in pairs:
                self.assertIs(type(pair), tuple)
                self.assertEqual([type(thing) for thing in pair], [int, int])

    def test_told_anew_when_an_earlier_list_was_changed(self):
        for size in SIZES:
            for tie in some_ties(size, 40):
                first = pairs_of(size, tie)
                kept = list(first)
                first.append((9, 9))
                first.reverse()
                second = pairs_of(size, tie)
                self.assertEqual(second, kept)
                first.clear()
                self.assertEqual(second, kept)


class TieOfPairs(Case):
    def test_reverse_of_pairs_of(self):
        for size in SIZES:
            for tie in all_ties(size) if size < 4 else some_ties(4, 3000):
                answer = tie_of(size, pairs_of(size, tie))
                self.assertIs(type(answer), int)
                self.assertEqual(answer, tie)

    def test_any_order_some_twice_and_the_list_stays(self):
        for size in SIZES:
            for tie in some_ties(size, 300):
                pairs = [pair for pair in all_pairs(size) if is_tied(size, tie, *pair)]
                middle = len(pairs) // 2
                for handed in (
                    pairs[::-1],
                    pairs[middle:] + pairs[:middle],
                    pairs + pairs,
                    pairs[::-1] + pairs[:1] + pairs[:1],
                    [pair for pair in pairs for time in range(3)],
                ):
                    before = list(handed)
                    self.assertEqual(tie_of(size, handed), tie, handed)
                    self.assertEqual(handed, before)

    def test_no_pairs(self):
        for size in SIZES:
            self.check_tie(size, tie_of(size, []), lambda a, b: False, size)

    def check_refused(self, size, pairs):
        before = list(pairs)
        with self.assertRaises(NoPair, msg=(size, pairs)):
            tie_of(size, pairs)
        self.assertEqual(pairs, before)

    def test_no_thing_of_the_size_is_refused_wherever_it_stands(self):
        for size in SIZES:
            right = all_pairs(size)
            for wrong in wrong_things(size):
                for other in [wrong] + list(range(size)):
                    for pair in ((wrong, other), (other, wrong)):
                        self.check_refused(size, [pair])
                        self.check_refused(size, [pair] + right)
                        self.check_refused(size, right + [pair])
                        middle = len(right) // 2
                        self.check_refused(size, right[:middle] + [pair] + right[middle:])

    def test_refused_with_nothing_but_no_pair_where_all_are_wrong(self):
        for size in SIZES:
            self.check_refused(size, [(size, size), (None, True), (-1, "0")])

    def test_the_greatest_thing_is_one(self):
        for size in range(1, 5):
            self.assertEqual(tie_of(size, [(size - 1, size - 1)]), 2 ** (size * size - 1))


class PutTogether(Case):
    def pairs_of_ties(self):
        for size in SIZES:
            ties = all_ties(size) if size < 3 else some_ties(size, 40)
            for one, other in itertools.product(ties, repeat=2):
                yield size, one, other

    def test_either(self):
        for size, one, other in self.pairs_of_ties():
            self.check_tie(
                size, either(one, other),
                lambda a, b: is_tied(size, one, a, b) or is_tied(size, other, a, b),
                (size, one, other))

    def test_common(self):
        for size, one, other in self.pairs_of_ties():
            self.check_tie(
                size, common(one, other),
                lambda a, b: is_tied(size, one, a, b) and is_tied(size, other, a, b),
                (size, one, other))

    def test_without_both_ways_round(self):
        # The product hands each two in both orders.
        for size, one, other in self.pairs_of_ties():
            self.check_tie(
                size, without(one, other),
                lambda a, b: is_tied(size, one, a, b) and not is_tied(size, other, a, b),
                (size, one, other))
        self.assertEqual((without(6, 3), without(3, 6)), (4, 1))

    def test_joined(self):
        for size, one, other in self.pairs_of_ties():
            self.check_tie(
                size, joined(size, one, other),
                lambda a, c: any(
                    is_tied(size, one, a, b) and is_tied(size, other, b, c) for b in range(size)),
                (size, one, other))

    def test_joined_of_single_pairs(self):
        for size in SIZES:
            for first, second in itertools.product(all_pairs(size), repeat=2):
                expected = [(first[0], second[1])] if first[1] == second[0] else []
                answer = joined(size, tie_of(size, [first]), tie_of(size, [second]))
                self.assertEqual(pairs_of(size, answer), expected)

    def test_with_no_pairs_and_with_all(self):
        for size in SIZES:
            whole = 2 ** (size * size) - 1
            for tie in some_ties(size, 200):
                self.assertEqual((either(tie, 0), either(0, tie)), (tie, tie))
                self.assertEqual((either(tie, whole), either(whole, tie)), (whole, whole))
                self.assertEqual((common(tie, 0), common(0, tie)), (0, 0))
                self.assertEqual((common(tie, whole), common(whole, tie)), (tie, tie))
                self.assertEqual((without(tie, 0), without(0, tie)), (tie, 0))
                self.assertEqual((without(tie, whole), without(whole, tie)), (0, whole - tie))
                self.assertEqual((joined(size, tie, 0), joined(size, 0, tie)), (0, 0))
                self.check_tie(
                    size, joined(size, tie, whole),
                    lambda a, c: any(is_tied(size, tie, a, b) for b in range(size)), tie)
                self.check_tie(
                    size, joined(size, whole, tie),
                    lambda a, c: any(is_tied(size, tie, b, c) for b in range(size)), tie)


class Turned(Case):
    def test_turned(self):
        for size in SIZES:
            for tie in all_ties(size) if size < 4 else some_ties(4, 2000):
                answer = turned(size, tie)
                self.check_tie(size, answer, lambda a, b: is_tied(size, tie, b, a), (size, tie))
                self.assertEqual(turned(size, answer), tie)


class Closed(Case):
    def check_closed(self, size, tie):
        self.check_tie(
            size, closed(size, tie), lambda a, b: comes_to(size, tie, a, b), (size, tie))

    def test_closed(self):
        for size in SIZES:
            for tie in all_ties(size) if size < 4 else some_ties(4, 2000):
                self.check_closed(size, tie)

    def test_no_steps_are_none(self):
        for size in SIZES:
            self.assertEqual(closed(size, 0), 0)

    def test_rings_whole_and_with_a_pair_left_out(self):
        for size in range(1, 5):
            for order in itertools.permutations(range(size)):
                ring = list(zip(order, order[1:] + order[:1]))
                self.assertEqual(closed(size, tie_of(size, ring)), 2 ** (size * size) - 1)
                for left_out in range(size):
                    tie = tie_of(size, ring[:left_out] + ring[left_out + 1:])
                    self.check_closed(size, tie)
                    self.assertEqual(len(pairs_of(size, closed(size, tie))), size * (size - 1) // 2)

    def test_one_or_two_pairs_alone(self):
        for size in SIZES:
            for first, second in itertools.product(all_pairs(size), repeat=2):
                self.check_closed(size, tie_of(size, [first, second]))
            for pair in all_pairs(size):
                self.assertEqual(pairs_of(size, closed(size, tie_of(size, [pair]))), [pair])

    def test_all_pairs(self):
        for size in SIZES:
            whole = 2 ** (size * size) - 1
            self.assertEqual(closed(size, whole), whole)


class SameAndEvery(Case):
    def test_same(self):
        for size in SIZES:
            self.check_tie(size, same(size), lambda a, b: a == b, size)

    def test_every(self):
        for size in SIZES:
            self.check_tie(size, every(size), lambda a, b: True, size)

    def test_size_without_things(self):
        answers = [
            tie_of(0, []), either(0, 0), common(0, 0), without(0, 0), turned(0, 0),
            joined(0, 0, 0), closed(0, 0), same(0), every(0),
        ]
        for answer in answers:
            self.assertIs(type(answer), int)
            self.assertEqual(answer, 0)
        self.assertEqual(pairs_of(0, 0), [])


if __name__ == "__main__":
    unittest.main()
