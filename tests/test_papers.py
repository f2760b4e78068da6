"""Promises 15 and 16, with 2: theories, and which papers hold."""

import itertools
import random
import unittest

import model
from worldfind.errors import Crowded, NoSize, TooBig
from worldfind.papers import holds, theory_of

SIZES = range(5)
WORDS = (("k", "l"), ("r",))
TIE_WORDS = ((), ("r",))
K, L, R = ("name", "k"), ("name", "l"), ("name", "r")
NEVER, ALWAYS = ("some", ("none",)), ("no", ("none",))
HIDDEN_NEVER = ("some", ("less", R, R))
BROKEN = ("broken", 0)
NAMES = ("a", "b", "c", "d")
MORE = ("e", "f", "g", "h")
ALL_WORDS = [(NAMES[:kinds], MORE[:ties]) for kinds in range(5) for ties in range(5)]
NO_SIZES = [-1, -2, 5, 6, -(10 ** 50), 10 ** 50, True, False, None, "0", "1", "", 0.0, 2.0, (), (1,), [], [2], {}]
NO_PAPERS = [
    None, True, False, 0, 1, -1, 10 ** 50, 0.5, "", "broken", "split", "broken0", "ab", "abcdef", b"broken", b"ab", {},
    {"broken": 0}, {0: "broken", 1: 0}, [], ["broken", 0], [("broken", 0)], object(), int, {"broken", 0},
    (), ("broken",), ("split",), ("broken", 0, 0), ("broken", 0, None), ("broken", 0, 0, 0, 0, 0),
    ("broken", 0, BROKEN), (("broken", 0),), (BROKEN, BROKEN), ("Broken", 0), ("broken ", 0), ("brok", 0), ("", 0),
    (None, 0), (0, 0), (True, 0),
    (["broken"], 0), (("broken",), 0), ("split", 0), (0, "broken"), ("paper", BROKEN), ("world", 0), (b"broken", 0),
    ("split", "r", 0, 1), ("split", "r", 0, 1, BROKEN), ("split", "r", 0, 1, BROKEN, BROKEN, BROKEN),
    ("split", "r", 0, 1, BROKEN, BROKEN, None), ("split", "r", (0, 1), BROKEN, BROKEN),
    ("Split", "r", 0, 1, BROKEN, BROKEN), ("broken", "r", 0, 1, BROKEN, BROKEN), (None, "r", 0, 1, BROKEN, BROKEN),
    ("splits", "r", 0, 1, BROKEN, BROKEN), (["split"], "r", 0, 1, BROKEN, BROKEN),
]
NO_NUMBERS = [
    True, False, None, -1, -2, -3, 2, 3, 12, 10 ** 50, -(10 ** 50), 0.0, 1.0, "", "0", "1", (), (0,), [], [0], {},
    ("broken", 0),
]
NO_THINGS = [-1, -2, 3, 4, 9, 10 ** 50, -(10 ** 50), True, False, None, 0.0, 1.0, "", "0", "r", (), (0,), [], [0], {}]
NO_NAMES = [
    "s", "", "R", "r ", " r", "rr", "same", "all", "none", "name", "k r", None, True, False, 0, 1, (), ("r",), ["r"],
    {"r": 1}, ("name", "r"), b"r", 1.5,
]


class EqualsAll:
    """A thing that says of itself that it equals anything."""

    def __eq__(self, other):
        return True

    __hash__ = None


class MakingTheories(unittest.TestCase):
    def test_none_to_twelve(self):
        sayings = [("most", number, R) for number in range(13)]
        for number in range(13):
            handed = sayings[:number]
            theory = theory_of(WORDS, handed)
            self.assertEqual(theory, (WORDS, tuple(sayings[:number])))
            self.assertEqual([type(theory), type(theory[1])], [tuple, tuple])
            self.assertEqual(handed, sayings[:number])

    def test_thirteen_and_more_are_refused(self):
        for number in (13, 14, 24, 25, 100, 200):
            for saying in (ALWAYS, None):
                handed = [saying] * number
                with self.assertRaises(Crowded, msg=number):
                    theory_of(WORDS, handed)
                self.assertEqual(handed, [saying] * number)

    def test_order_and_sayings_told_twice_stay(self):
        sayings = [("some", R), ALWAYS, ("some", R), NEVER, ALWAYS]
        self.assertEqual(theory_of(WORDS, list(sayings))[1], tuple(sayings))

    def test_nothing_but_their_number_is_looked_at(self):
        for thing in (None, 0, "", "some r", (), [], {}, ("some", ("name", "nobody")), 1.5, EqualsAll()):
            for number in (1, 2, 12):
                told = theory_of(WORDS, [thing] * number)[1]
                self.assertEqual(len(told), number)
                self.assertTrue(all(one is thing for one in told))
            with self.assertRaises(Crowded):
                theory_of(WORDS, [thing] * 13)

    def test_list_changed_later_changes_no_theory(self):
        handed = [ALWAYS, NEVER]
        theory = theory_of(WORDS, handed)
        handed.append(ALWAYS)
        handed[0] = NEVER
        self.assertEqual(theory, (WORDS, (ALWAYS, NEVER)))
        self.assertEqual(theory_of(WORDS, [ALWAYS]), (WORDS, (ALWAYS,)))

    def test_any_words(self):
        for words in ALL_WORDS:
            self.assertEqual(theory_of(words, []), (words, ()))
            self.assertEqual(theory_of(words, [ALWAYS] * 12), (words, (ALWAYS,) * 12))
            with self.assertRaises(Crowded):
                theory_of(words, [ALWAYS] * 13)


class Refusals(unittest.TestCase):
    def test_too_big_beyond_sixteen_bits(self):
        refused = []
        for words in ALL_WORDS:
            for size in SIZES:
                theory = theory_of(words, [NEVER])
                number = model.how_many_bits(words, size)
                if number <= 16:
                    self.assertIs(holds(theory, size, BROKEN), True, (words, size))
                    continue
                with self.assertRaises(TooBig, msg=(words, size)) as caught:
                    holds(theory, size, BROKEN)
                self.assertEqual((caught.exception.bits, type(caught.exception.bits)), (number, int))
                refused.append(number)
        # No words have 17 bits at any size.
        self.assertEqual((min(refused), max(refused)), (18, 80))

    def test_too_big_whatever_the_paper_is(self):
        theory = theory_of(((), ("e", "f")), [NEVER])
        for paper in NO_PAPERS + [BROKEN]:
            with self.assertRaises(TooBig) as caught:
                holds(theory, 4, paper)
            self.assertEqual(caught.exception.bits, 32)

    def test_no_size_ahead_of_all_else(self):
        for words in ALL_WORDS:
            for size in NO_SIZES:
                for paper in (BROKEN, None, ("broken", -1)):
                    with self.assertRaises(NoSize, msg=(words, size)):
                        holds(theory_of(words, [NEVER]), size, paper)


class Case(unittest.TestCase):
    def check(self, theory, size, paper):
        answer = holds(theory, size, paper)
        self.assertIs(answer, model.paper_holds(theory, size, paper), (theory, size, paper))
        return answer


class BrokenSayings(Case):
    def test_told_false_at_once_or_not(self):
        for size in range(1, 5):
            for saying, truth in ((NEVER, False), (ALWAYS, True), (("some", R), None), (HIDDEN_NEVER, None),
                                  (("least", size * size + 1, R), False), (("least", size * size, R), None)):
                theory = theory_of(TIE_WORDS, [saying])
                self.assertIs(self.check(theory, size, BROKEN), truth is False, (size, saying))

    def test_number_is_that_of_the_saying(self):
        for count in range(1, 13):
            for place in range(count):
                sayings = [ALWAYS] * count
                sayings[place] = NEVER
                for number in range(-count - 1, 14):
                    answer = self.check(theory_of(WORDS, sayings), 2, ("broken", number))
                    self.assertIs(answer, number == place)

    def test_number_that_is_none(self):
        for number in NO_NUMBERS:
            self.assertIs(self.check(theory_of(WORDS, [NEVER, NEVER]), 2, ("broken", number)), False, number)
        self.assertIs(holds(theory_of(WORDS, [NEVER, NEVER]), 2, ("broken", EqualsAll())), False)

    def test_theory_without_sayings_has_no_paper(self):
        theory = theory_of(WORDS, [])
        for number in [0, 1, -1] + NO_NUMBERS:
            self.assertIs(self.check(theory, 2, ("broken", number)), False, number)

    def test_without_things_all_is_settled(self):
        for saying in (("some", R), ("some", ("all",)), HIDDEN_NEVER, ("least", 1, ("same",))):
            self.assertIs(self.check(theory_of(WORDS, [saying]), 0, BROKEN), True)
            self.assertIs(self.check(theory_of(WORDS, [("not", saying)]), 0, BROKEN), False)
        for name in WORDS[0] + WORDS[1]:
            for a in (0, 1, -1):
                paper = ("split", name, a, a, BROKEN, BROKEN)
                self.assertIs(self.check(theory_of(WORDS, [NEVER]), 0, paper), False)


class Splits(Case):
    def test_written_out(self):
        theory = theory_of(WORDS, [("some", ("both", K, R)), ("no", ("both", K, R)), ("equal", K, ("same",))])
        whole = ("split", "k", 0, 0, ("split", "r", 0, 0, ("broken", 1), ("broken", 0)), ("broken", 2))
        self.assertIs(self.check(theory, 1, whole), True)
        self.assertIs(self.check(theory, 2, whole), False)
        for place, other in ((1, "l"), (1, "r"), (2, 1), (3, 1), (4, ("broken", 1)), (5, ("broken", 1))):
            self.assertIs(self.check(theory, 1, whole[:place] + (other,) + whole[place + 1:]), False, (place, other))
        self.assertIs(self.check(theory, 1, whole[:4] + (whole[5], whole[4])), False)

    def test_yes_sets_it_and_no_takes_it(self):
        for size in range(1, 5):
            theory = theory_of(TIE_WORDS, [("no", R), ("some", R)])
            for last in itertools.product(range(size), repeat=2):
                others = sorted(model.all_pairs(size) - {last})
                self.assertIs(self.check(theory, size, self.chain(others + [last], 0, 1)), True)
                self.assertIs(self.check(theory, size, self.chain(others, 0, 1)), False)
                self.assertIs(self.check(theory, size, self.chain(others + [last], 1, 0)), False)

    def chain(self, pairs, yes, no):
        """Each pair split on behind the ones ahead not being there."""
        paper = ("broken", no)
        for a, b in reversed(pairs):
            paper = ("split", "r", a, b, ("broken", yes), paper)
        return paper

    def test_each_bit_is_its_own(self):
        words = (("k", "l"), ("r", "s"))
        bits = model.open_bits(words, model.open_part(words, 2))
        for name, a, b in bits:
            one = ("name", name)
            pair = ("both", one, ("all",))
            theory = theory_of(words, [("most", 0, pair), ("least", 1, pair)])
            own = [bit for bit in bits if bit[0] == name]
            for last in bits:
                chain = ("broken", 1)
                for bit in [bit for bit in own if bit != (name, a, b)] + [last]:
                    chain = ("split",) + bit + (("broken", 0), chain)
                self.assertIs(self.check(theory, 2, chain), last == (name, a, b), last)

    def test_thing_that_is_none(self):
        theory = theory_of(WORDS, [NEVER])
        for name in ("k", "l", "r"):
            for thing in range(3):
                self.assertIs(self.check(theory, 3, ("split", name, thing, thing, BROKEN, BROKEN)), True)
                for wrong in NO_THINGS:
                    for a, b in ((wrong, thing), (thing, wrong), (wrong, wrong)):
                        self.assertIs(self.check(theory, 3, ("split", name, a, b, BROKEN, BROKEN)), False, (name, a, b))
                strange = EqualsAll()
                self.assertIs(holds(theory, 3, ("split", name, strange, thing, BROKEN, BROKEN)), False)
                self.assertIs(holds(theory, 3, ("split", name, thing, strange, BROKEN, BROKEN)), False)

    def test_things_go_to_the_size(self):
        for size in SIZES:
            theory = theory_of((("k",), ("r",)) if size < 4 else (("k",), ()), [NEVER])
            for name in theory[0][0] + theory[0][1]:
                for a, b in itertools.product(range(-1, 6), repeat=2):
                    right = 0 <= a < size and 0 <= b < size and (name == "r" or a == b)
                    self.assertIs(self.check(theory, size, ("split", name, a, b, BROKEN, BROKEN)), right, (name, a, b))

    def test_name_that_is_none(self):
        theory = theory_of(WORDS, [NEVER])
        for name in NO_NAMES:
            for a, b in ((0, 0), (0, 1), (1, 1)):
                self.assertIs(self.check(theory, 3, ("split", name, a, b, BROKEN, BROKEN)), False, name)
        self.assertIs(holds(theory, 3, ("split", EqualsAll(), 0, 0, BROKEN, BROKEN)), False)

    def test_for_a_kind_the_same_thing_twice(self):
        theory = theory_of(WORDS, [NEVER])
        for a, b in itertools.product(range(3), repeat=2):
            for name in ("k", "l", "r"):
                answer = self.check(theory, 3, ("split", name, a, b, BROKEN, BROKEN))
                self.assertIs(answer, name == "r" or a == b)

    def test_bit_that_is_open_no_more(self):
        theory = theory_of(WORDS, [NEVER])
        bits = model.open_bits(WORDS, model.open_part(WORDS, 2))
        for one, other in itertools.product(bits, repeat=2):
            inner = ("split",) + other + (BROKEN, BROKEN)
            for halves in ((inner, BROKEN), (BROKEN, inner)):
                self.assertIs(self.check(theory, 2, ("split",) + one + halves), one != other, (one, other))
            for third in bits:
                between = ("split",) + third + (inner, inner)
                answer = self.check(theory, 2, ("split",) + one + (between, BROKEN))
                self.assertIs(answer, len({one, other, third}) == 3)

    def test_same_bit_in_either_half(self):
        theory = theory_of(WORDS, [NEVER])
        inner = ("split", "r", 0, 1, BROKEN, BROKEN)
        self.assertIs(self.check(theory, 2, ("split", "k", 1, 1, inner, inner)), True)

    def test_one_of_the_two_within_wrong(self):
        theory = theory_of(WORDS, [NEVER, ALWAYS])
        for wrong in NO_PAPERS + [("broken", 1), ("broken", 2), ("broken", -2)]:
            for halves in ((wrong, BROKEN), (BROKEN, wrong), (wrong, wrong)):
                for name, a, b in (("r", 0, 1), ("k", 1, 1)):
                    paper = ("split", name, a, b) + halves
                    self.assertIs(holds(theory, 2, paper), False, paper)
                    self.assertIs(holds(theory, 2, ("split", "r", 1, 1, BROKEN, paper)), False, paper)

    def test_more_than_is_needed_is_no_fault(self):
        theory = theory_of(WORDS, [NEVER])
        paper = BROKEN
        for bit in model.open_bits(WORDS, model.open_part(WORDS, 2)):
            paper = ("split",) + bit + (paper, paper)
        self.assertIs(self.check(theory, 2, paper), True)


class ThingsOfAnyKind(Case):
    def test_told_false(self):
        for theory in (theory_of(WORDS, [NEVER, NEVER]), theory_of(WORDS, [])):
            for size in range(4):
                for thing in NO_PAPERS:
                    self.assertIs(holds(theory, size, thing), False, thing)
        self.assertIs(holds(theory_of(WORDS, [NEVER]), 2, EqualsAll()), False)
        self.assertIs(holds(theory_of(WORDS, [NEVER]), 2, (EqualsAll(), 0)), False)
        self.assertIs(holds(theory_of(WORDS, [NEVER]), 2, (EqualsAll(), "r", 0, 1, BROKEN, BROKEN)), False)

    def test_a_hundred_within_one_another(self):
        theory = theory_of(TIE_WORDS, [HIDDEN_NEVER])
        pairs = sorted(model.all_pairs(4))
        for wrap in (lambda paper, place: ("split", "r") + pairs[place % 16] + (paper, paper),
                     lambda paper, place: ("split", "r") + pairs[place % 16] + (BROKEN, paper),
                     lambda paper, place: ("split", "r", 0, 0, paper, BROKEN),
                     lambda paper, place: ("broken", paper),
                     lambda paper, place: (paper,),
                     lambda paper, place: (paper, 0)):
            paper = BROKEN
            for place in range(99):
                paper = wrap(paper, place)
            self.assertIs(holds(theory, 4, paper), False)

    def test_what_is_handed_in_stays(self):
        number = ["broken", 0]
        paper = ("split", "r", 0, 1, number, BROKEN)
        theory = theory_of(WORDS, [NEVER])
        self.assertIs(holds(theory, 2, paper), False)
        self.assertEqual((paper, number), (("split", "r", 0, 1, ["broken", 0], BROKEN), ["broken", 0]))
        self.assertEqual(theory, (WORDS, (NEVER,)))


class AgainstTheModel(Case):
    def changed(self, theory, paper, chance):
        """The paper with one place changed by chance."""
        if paper[0] == "split" and chance.randrange(5):
            place = chance.choice((4, 5))
            return paper[:place] + (self.changed(theory, paper[place], chance),) + paper[place + 1:]
        number = ("broken", chance.randrange(-1, len(theory[1]) + 1))
        if paper[0] == "broken":
            return chance.choice([number, number, ("broken", True), None, ("split", "r", 0, 0, paper, paper)])
        place = chance.randrange(1, 6)
        others = [paper[5], paper[4], number]
        if place == 1:
            others = list(theory[0][0] + theory[0][1])
        if place in (2, 3):
            others = [0, 1, 2, True, -1]
        return paper[:place] + (chance.choice(others),) + paper[place + 1:]

    def test_papers_by_chance_and_changed_ones(self):
        chance = random.Random(51)
        answers = []
        kinds_of_case = ((0, WORDS, 20), (1, WORDS, 60), (2, WORDS, 60), (2, TIE_WORDS, 60), (3, TIE_WORDS, 12))
        for size, words, most in kinds_of_case:
            made = 0
            while made < most:
                sayings = [model.some_saying(words, 1, chance) for place in range(chance.randrange(1, 5))]
                theory = theory_of(words, sayings)
                paper = model.some_paper(theory, model.open_part(words, size), chance)
                if paper is None:
                    continue
                made += 1
                self.assertIs(self.check(theory, size, paper), True)
                answers += [self.check(theory, size, self.changed(theory, paper, chance)) for place in range(15)]
                self.check(theory, min(size + 1, 3), paper)
        self.assertGreater(answers.count(True), 100)
        self.assertGreater(answers.count(False), 100)

    def test_where_one_holds_no_world_keeps_the_theory(self):
        chance = random.Random(52)
        held = 0
        for place in range(400):
            size = chance.randrange(3)
            theory = theory_of(WORDS, [model.some_saying(WORDS, 1, chance) for number in range(2)])
            bits = model.open_bits(WORDS, model.open_part(WORDS, size))
            papers = [("broken", number) for number in range(2)]
            for number in range(20):
                if bits:
                    bit = chance.choice(bits)
                    papers.append(("split",) + bit + (chance.choice(papers), chance.choice(papers)))
            kept = [world for world in model.all_worlds(WORDS, size) if model.keeps_all(theory, world)]
            for paper in papers:
                if self.check(theory, size, paper):
                    held += 1
                    self.assertEqual(kept, [], (theory, size, paper))
        self.assertGreater(held, 100)

    def test_whole_tree_of_sixteen_bits(self):
        words = (("a", "b", "c", "d"), ())
        theory = theory_of(words, [("some", ("less", ("name", name), ("name", name))) for name in words[0]])
        paper = BROKEN
        for thing in range(4):
            paper = ("split", "a", thing, thing, paper, paper)
        self.assertIs(self.check(theory, 4, paper), True)
        other = ("broken", 1)
        for name, thing in itertools.product("bcda", range(4)):
            other = ("split", name, thing, thing, other, other)
        self.assertIs(holds(theory, 4, other), True)


if __name__ == "__main__":
    unittest.main()
