"""Promises 2 and 3 over the whole program: small theories held against all worlds gone through one by one."""

import copy
import itertools
import random
import unittest

import model
from worldfind.bounds import bounds, told
from worldfind.desk import Desk
from worldfind.errors import Kept, NoWorld
from worldfind.following import follows, matters, same_or_parted
from worldfind.likeness import alike, back, form, likenesses, renamed, renamings, then
from worldfind.listing import how_many, number_of, unlike, unlike_count, world_at
from worldfind.pairsets import pairs_of, tie_of
from worldfind.papers import holds, theory_of
from worldfind.quarrels import quarrel
from worldfind.reading import read_saying
from worldfind.sayings import keeps, value
from worldfind.search import found, smallest
from worldfind.showing import shown_expression, shown_saying
from worldfind.theories import read_theory, shown_theory
from worldfind.worlds import bits, code, words_of, world_of

TIE = ((), ("r",))
# Theories in rows, without the "say", and the greatest size at which their worlds are gone through.
THEORIES = [
    (((), ()), 4, []),
    (((), ()), 4, ["least 2 same", "most 9 all"]),
    (TIE, 3, []),
    (TIE, 3, ["r . r in r", "no r & same"]),
    (TIE, 3, ["r . r in r", "no r & same", "no r & ~r", "each least 1 r"]),
    (TIE, 3, ["r = ~r", "same in r", "r . r in r"]),
    (TIE, 3, ["each least 1 r", "each most 1 r", "^r = all"]),
    (TIE, 3, ["some r", "no r & same", "r = ~r", "least 5 r", "most 5 r"]),
    (TIE, 3, ["not [some r or some same]", "no r"]),
    ((("k",), ("r",)), 2, ["r in k . all", "some r . r or k = same"]),
    ((("k",), ("r",)), 2, ["k . r = r . k", "not r = same", "some k", "least 1 k"]),
    ((("k", "l"), ("r",)), 2, ["r in k . all . l", "no k & l", "k + l = same"]),
    ((("k", "l"), ()), 4, ["k in l", "not l in k", "least 2 l"]),
    ((("k", "l"), ()), 4, ["no k & l", "k = l", "some k"]),
    ((("k",), ()), 4, ["most 2 k", "some k", "most 2 same - k"]),
    (((), ("r", "s")), 2, ["r . s = same", "s . r = same", "not r = s"]),
    (((), ("r", "s")), 2, ["r in s", "some r", "no r & s"]),
]


def theory_from(words, texts):
    return theory_of(words, [read_saying(words, text) for text in texts])


def some_theories(chance):
    for words, most, texts in THEORIES[::2]:
        for place in range(3):
            sayings = [model.some_saying(words, 1, chance) for number in range(chance.randrange(1, 5))]
            yield theory_of(words, sayings), min(most, 3)


def all_theories():
    return [(theory_from(words, texts), most) for words, most, texts in THEORIES] + list(some_theories(random.Random(131)))


def desk_with(*theories):
    """A desk at which the theories stand by a, b and so on."""
    desk = Desk()
    for word, theory in zip("abcdefgh", theories):
        desk.say("begin " + word)
        for row in shown_theory(theory):
            desk.say(f"tell {word} {row}")
    return desk


class Case(unittest.TestCase):
    def each(self):
        """Each theory and size, with all worlds that keep it."""
        for theory, most in all_theories():
            for size in range(most + 1):
                worlds = model.all_worlds(theory[0], size)
                yield theory, size, [world for world in worlds if model.keeps_all(theory, world)]


class FoundOrPaper(Case):
    def test_one_of_the_two_and_never_both(self):
        for theory, size, kept in self.each():
            sort, answer = found(theory, size)
            if kept:
                self.assertEqual(sort, "world")
                self.assertIn(answer, kept)
            else:
                self.assertEqual(sort, "paper")
                self.assertIs(holds(theory, size, answer), True)
                self.assertIs(model.paper_holds(theory, size, answer), True)

    def test_no_paper_holds_where_a_world_keeps_it(self):
        chance = random.Random(132)
        for theory, size, kept in self.each():
            papers = [("broken", number) for number in range(len(theory[1]))]
            open_bits = model.open_bits(theory[0], model.open_part(theory[0], size))
            for place in range(20):
                if papers and open_bits:
                    papers.append(("split",) + chance.choice(open_bits) + (chance.choice(papers), chance.choice(papers)))
            for paper in papers:
                answer = holds(theory, size, paper)
                self.assertFalse(answer and kept, (theory, size, paper))

    def test_smallest_and_quarrel_tell_the_same_tale(self):
        for theory, most in all_theories():
            sizes = [size for size in range(most + 1) if found(theory, size)[0] == "world"]
            for size in range(most + 1):
                if size in sizes:
                    with self.assertRaises(Kept):
                        quarrel(theory, size)
                else:
                    self.assertTrue(model.is_quarrel(theory, size, quarrel(theory, size)))
            if sizes:
                world, papers = smallest(theory, most)
                self.assertEqual((world[0], len(papers)), (sizes[0], sizes[0]))
            else:
                with self.assertRaises(NoWorld):
                    smallest(theory, most)


class ListIsWhole(Case):
    def test_each_world_is_alike_to_just_one(self):
        for theory, size, kept in self.each():
            listed = unlike(theory, size)
            for world in kept[::7]:
                twins = [one for one in listed if alike(theory[0], world, one) is not None]
                self.assertEqual(twins, [world_at(theory, size, number_of(theory, world))])
            self.assertEqual(how_many(theory, size), len(kept))
            shares = [len(renamings(size)) // len(likenesses(theory[0], world)) for world in listed]
            self.assertEqual(sum(shares), len(kept))


class Theories(Case):
    def test_a_saying_matters_by_a_world_or_is_spare_by_a_paper(self):
        for theory, size, kept in self.each():
            words, sayings = theory
            for number, saying in enumerate(sayings):
                others = (words, sayings[:number] + sayings[number + 1:])
                kept_by_others = [world for world in model.all_worlds(words, size) if model.keeps_all(others, world)]
                answer = matters(theory, size, number)
                self.assertTrue(model.is_told_of_following(others, size, saying, answer))
                self.assertEqual(answer[0], "paper" if kept_by_others == kept else "world")
                self.assertEqual(follows(others, size, saying)[0], answer[0])

    def test_two_say_the_same_or_a_world_parts_them(self):
        theories = all_theories()
        sorts = []
        for (one, most), (other, other_most) in itertools.product(theories, repeat=2):
            if one[0] == other[0] and theories.index((one, most)) % 3 == 0:
                least = min(most, other_most)
                is_same = all(
                    model.keeps_all(one, world) == model.keeps_all(other, world)
                    for size in range(least + 1) for world in model.all_worlds(one[0], size))
                answer = same_or_parted(one, other, least)
                self.assertTrue(model.is_told_of_two(one, other, least, answer))
                self.assertEqual(answer[0], "same" if is_same else "world")
                sorts.append(is_same)
        self.assertGreater(sorts.count(True), 8)
        self.assertGreater(sorts.count(False), 20)

    def test_what_is_written_is_read_again_as_the_same(self):
        for theory, most in all_theories():
            self.assertEqual(read_theory(shown_theory(theory)), theory)
            for saying in theory[1]:
                self.assertEqual(read_saying(theory[0], shown_saying(saying)), saying)
            shown = desk_with(theory).say("show a")
            self.assertEqual(read_theory(shown.split("; ") if shown else []), theory)


class AtTheDesk(Case):
    def test_find_count_and_quarrel(self):
        for theory, size, kept in self.each():
            words, sayings = theory
            desk = desk_with(theory)
            codes = [str(model.code_of_world(words, world)) for world in kept]
            self.assertIn(desk.say(f"find a {size}"), codes or ["none"])
            forms = {model.least_alike(words, world) for world in kept}
            self.assertEqual(desk.say(f"count a {size}"), f"{len(kept)} {len(forms)}")
            answer = desk.say(f"quarrel a {size}")
            if kept:
                self.assertEqual(answer, "none")
                continue
            numbers = [int(number) for number in answer.split(" ")]
            self.assertEqual(numbers, sorted(set(numbers)))
            rows = [[model.is_kept(words, world, sayings[number]) for number in numbers]
                    for world in model.all_worlds(words, size)]
            self.assertNotIn([True] * len(numbers), rows)
            for place in range(len(numbers)):
                self.assertIn([other != place for other in range(len(numbers))], rows)

    def test_least(self):
        for theory, most in all_theories():
            desk = desk_with(theory)
            sizes = [size for size in range(most + 1)
                     if any(model.keeps_all(theory, world) for world in model.all_worlds(theory[0], size))]
            for size in range(most + 1):
                lesser = [str(one) for one in sizes if one <= size] or ["none"]
                self.assertEqual(desk.say(f"least a {size}"), lesser[0])

    def test_form_and_keeps(self):
        for theory, size, kept in self.each():
            words, sayings = theory
            desk = desk_with(theory)
            for world in model.all_worlds(words, size)[::5]:
                number = model.code_of_world(words, world)
                least = model.code_of_world(words, model.least_alike(words, world))
                self.assertEqual(desk.say(f"form a {size} {number}"), str(least))
                broken = [str(place) for place, saying in enumerate(sayings) if not model.is_kept(words, world, saying)]
                self.assertEqual(desk.say(f"keeps a {size} {number}"), (broken + ["yes"])[0])

    def test_matters(self):
        for theory, size, kept in self.each():
            words, sayings = theory
            desk = desk_with(theory)
            for number in range(len(sayings)):
                asked = [place != number for place in range(len(sayings))]
                codes = [str(model.code_of_world(words, world)) for world in model.all_worlds(words, size)
                         if [model.is_kept(words, world, saying) for saying in sayings] == asked]
                self.assertIn(desk.say(f"matters a {size} {number}"), codes or ["no"])

    def test_same(self):
        theories = [theory for theory, most in all_theories() if theory[0] == TIE][:8]
        desk = desk_with(*theories)
        for (one_word, one), (other_word, other) in itertools.product(zip("abcdefgh", theories), repeat=2):
            parting = [f"{size} {model.code_of_world(TIE, world)}" for size in range(4)
                       for world in model.all_worlds(TIE, size)
                       if model.keeps_all(one, world) != model.keeps_all(other, world)]
            for most in range(4):
                rows = [row for row in parting if int(row.split(" ")[0]) <= most]
                self.assertIn(desk.say(f"same {one_word} {other_word} {most}"), rows or ["yes"])


class AskersOwn(unittest.TestCase):
    """Promise 2: each call that tells a list, and each that is handed one."""

    def calls(self):
        words = (("k",), ("r",))
        world, other = (2, (1,), (6,)), (2, (2,), (6,))
        theory = theory_from(words, ["some r", "k in r", "no r & same", "some k"])
        same = theory_from(words, ["some r", "no r & same", "k in r", "some k"])
        expression, saying = ("closed", ("name", "r")), ("some", ("name", "r"))
        part = ((2, (0,), (2,)), (2, (3,), (7,)))
        return [
            (pairs_of, (2, 6)), (tie_of, (2, [(1, 0), (0, 1), (1, 0)])), (words_of, (["l", "k"], ["s", "r"])),
            (bits, (words, 2)), (code, (words, world)), (world_of, (words, 2, 37)), (value, (words, world, expression)),
            (keeps, (words, world, saying)), (read_saying, (words, "some r")), (shown_expression, (expression,)),
            (shown_saying, (saying,)), (bounds, (words, part, expression)), (told, (words, part, saying)),
            (theory_of, (words, [saying, saying])), (holds, (theory, 2, ("broken", 0))), (found, (theory, 2)),
            (smallest, (theory_from(words, ["least 2 r"]), 2)), (renamings, (3,)), (then, ((1, 2, 0), (1, 0, 2))),
            (back, ((1, 2, 0),)), (renamed, (words, world, (1, 0))), (form, (words, other)), (alike, (words, world, other)),
            (likenesses, (words, world)), (unlike, (theory_from(words, ["some r"]), 2)), (how_many, (theory, 2)),
            (world_at, (theory_from(words, ["some r"]), 2, 1)), (number_of, (theory_from(words, ["some r"]), world)),
            (unlike_count, (words, 4)), (follows, (theory, 2, saying)), (matters, (theory, 2, 1)),
            (same_or_parted, (theory, same, 2)), (quarrel, (theory, 2)),
            (read_theory, (["tie r", "kind k", "say some r"],)), (shown_theory, (theory,)),
        ]

    def changed(self, thing):
        """All lists in what was told are changed; how many there were."""
        if type(thing) is tuple:
            return sum(self.changed(inner) for inner in thing)
        if type(thing) is not list:
            return 0
        number = 1 + sum(self.changed(inner) for inner in thing)
        thing.reverse()
        thing.append("more")
        thing[0] = "other"
        return number

    def test_what_is_told_may_be_changed(self):
        expected = [copy.deepcopy(function(*handed)) for function, handed in self.calls()]
        number = sum(self.changed(function(*handed)) for function, handed in self.calls())
        self.assertEqual(number, 9)
        for (function, handed), answer in zip(self.calls(), expected):
            self.assertEqual(function(*handed), answer, function.__name__)
            self.changed(function(*handed))
            self.assertEqual(function(*handed), answer, function.__name__)

    def test_what_is_told_stays_whatever_is_asked_later(self):
        told_first = [function(*handed) for function, handed in self.calls()]
        kept = copy.deepcopy(told_first)
        for function, handed in self.calls() + self.calls()[::-1]:
            self.changed(function(*handed))
        self.assertEqual(told_first, kept)

    def test_what_is_handed_in_stays(self):
        for function, handed in self.calls():
            before = copy.deepcopy(handed)
            function(*handed)
            self.assertEqual(handed, before, function.__name__)

    def test_what_is_handed_in_may_be_changed_later(self):
        for function, handed in self.calls():
            answer = function(*handed)
            kept = copy.deepcopy(answer)
            self.changed(handed)
            self.assertEqual(answer, kept, function.__name__)


if __name__ == "__main__":
    unittest.main()
