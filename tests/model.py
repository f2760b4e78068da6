"""What the tests hold the program against: ties as sets of pairs, and the document's points 8, 9, 13, 14, 16, 19, 20 and
what 23 to 25 ask of an answer, word by word.

Nothing here is drawn from the program itself.
"""

import itertools

TWOS = ["plus", "less", "both", "joined"]
ONES = ["turned", "closed"]
BARES = [("same",), ("all",), ("none",)]
COUNTS = ["least", "most", "eachleast", "eachmost"]


def all_pairs(size):
    return {(a, b) for a in range(size) for b in range(size)}


def pairs_from_number(size, tie):
    return {(a, b) for a, b in all_pairs(size) if tie // 2 ** (a * size + b) % 2 == 1}


def number_from_pairs(size, pairs):
    return sum(2 ** (a * size + b) for a, b in set(pairs))


def pairs_of_name(words, world, name):
    size, kinds, ties = world
    if name in words[0]:
        kind = kinds[words[0].index(name)]
        return {(a, a) for a in range(size) if kind // 2 ** a % 2 == 1}
    return pairs_from_number(size, ties[words[1].index(name)])


def reached(pairs):
    """All (a, b) such that one comes from a to b by one step or more: walked from each thing."""
    ways = set()
    for start in {a for a, b in pairs}:
        ends = [start]
        while ends:
            end = ends.pop()
            for a, b in pairs:
                if a == end and (start, b) not in ways:
                    ways.add((start, b))
                    ends.append(b)
    return ways


def put_together(size, sort, *sets):
    if sort == "same":
        return {(a, a) for a in range(size)}
    if sort == "all":
        return all_pairs(size)
    if sort == "none":
        return set()
    if sort == "plus":
        return sets[0] | sets[1]
    if sort == "less":
        return sets[0] - sets[1]
    if sort == "both":
        return sets[0] & sets[1]
    if sort == "joined":
        return {(a, d) for a, b in sets[0] for c, d in sets[1] if b == c}
    if sort == "turned":
        return {(b, a) for a, b in sets[0]}
    if sort == "closed":
        return reached(sets[0])
    raise AssertionError(sort)


def pairs_in(words, world, expression):
    sort = expression[0]
    if sort == "name":
        return pairs_of_name(words, world, expression[1])
    return put_together(world[0], sort, *[pairs_in(words, world, inner) for inner in expression[1:]])


def tied_from(pairs, thing):
    return len([b for a, b in pairs if a == thing])


def is_kept(words, world, saying):
    sort = saying[0]
    if sort == "not":
        return not is_kept(words, world, saying[1])
    if sort == "and":
        return is_kept(words, world, saying[1]) and is_kept(words, world, saying[2])
    if sort == "or":
        return is_kept(words, world, saying[1]) or is_kept(words, world, saying[2])
    last = pairs_in(words, world, saying[-1])
    if sort == "in":
        return pairs_in(words, world, saying[1]) <= last
    if sort == "equal":
        return pairs_in(words, world, saying[1]) == last
    if sort == "some":
        return len(last) > 0
    if sort == "no":
        return len(last) == 0
    if sort == "least":
        return len(last) >= saying[1]
    if sort == "most":
        return len(last) <= saying[1]
    numbers = [tied_from(last, thing) for thing in range(world[0])]
    if sort == "eachleast":
        return all(number >= saying[1] for number in numbers)
    if sort == "eachmost":
        return all(number <= saying[1] for number in numbers)
    raise AssertionError(sort)


def must_and_may(words, part, expression):
    low, high = part
    sort = expression[0]
    if sort == "name":
        return pairs_of_name(words, low, expression[1]), pairs_of_name(words, high, expression[1])
    inner = [must_and_may(words, part, one) for one in expression[1:]]
    if sort == "less":
        return inner[0][0] - inner[1][1], inner[0][1] - inner[1][0]
    musts = put_together(low[0], sort, *[must for must, may in inner])
    mays = put_together(low[0], sort, *[may for must, may in inner])
    return musts, mays


def truth_of(words, part, saying):
    sort = saying[0]
    if sort in ("not", "and", "or"):
        truths = [truth_of(words, part, inner) for inner in saying[1:]]
        return {"not": truth_of_not, "and": truth_of_and, "or": truth_of_or}[sort](*truths)
    if sort == "some":
        return truth_of(words, part, ("least", 1, saying[1]))
    if sort == "no":
        return truth_of(words, part, ("most", 0, saying[1]))
    if sort == "equal":
        ins = ("and", ("in", saying[1], saying[2]), ("in", saying[2], saying[1]))
        return truth_of(words, part, ins)
    must, may = must_and_may(words, part, saying[-1])
    if sort == "in":
        first_must, first_may = must_and_may(words, part, saying[1])
        if first_may <= must:
            return True
        return False if first_must - may else None
    return truth_of_count(sort, saying[1], part[0][0], must, may)


def truth_of_count(sort, limit, size, must, may):
    if sort == "least":
        return True if len(must) >= limit else False if len(may) < limit else None
    if sort == "most":
        return True if len(may) <= limit else False if len(must) > limit else None
    musts = [tied_from(must, thing) for thing in range(size)]
    mays = [tied_from(may, thing) for thing in range(size)]
    if sort == "eachleast":
        return True if all(n >= limit for n in musts) else False if any(n < limit for n in mays) else None
    if sort == "eachmost":
        return True if all(n <= limit for n in mays) else False if any(n > limit for n in musts) else None
    raise AssertionError(sort)


def truth_of_not(truth):
    return {True: False, False: True, None: None}[truth]


def truth_of_and(one, other):
    if one is False or other is False:
        return False
    return True if one is True and other is True else None


def truth_of_or(one, other):
    if one is True or other is True:
        return True
    return False if one is False and other is False else None


def parts_of_world(words, size, number):
    """The world whose kinds and then ties take their bits from the number, the lowest first."""
    values = []
    for width in [size] * len(words[0]) + [size * size] * len(words[1]):
        values.append(number % 2 ** width)
        number //= 2 ** width
    return (size, tuple(values[:len(words[0])]), tuple(values[len(words[0]):]))


def code_of_world(words, world):
    """The number that parts_of_world takes the world from."""
    size, kinds, ties = world
    widths = [size] * len(words[0]) + [size * size] * len(words[1])
    places = [sum(widths[:number]) for number in range(len(widths))]
    return sum(value * 2 ** place for value, place in zip(kinds + ties, places))


def how_many_bits(words, size):
    return size * len(words[0]) + size * size * len(words[1])


def all_worlds(words, size):
    return [parts_of_world(words, size, number) for number in range(2 ** how_many_bits(words, size))]


def some_worlds(words, size, most, chance):
    """All worlds of the size where they are few; else the least, the greatest and some by chance."""
    end = 2 ** how_many_bits(words, size)
    if end <= most:
        return all_worlds(words, size)
    numbers = [0, end - 1] + [chance.randrange(end) for place in range(most - 2)]
    return [parts_of_world(words, size, number) for number in numbers]


def all_parts(words, size):
    """Every part-known world of the size."""
    worlds = all_worlds(words, size)
    return [(low, high) for low in worlds for high in worlds if is_within(low, high)]


def some_part(words, size, chance):
    end = 2 ** how_many_bits(words, size)
    one, other = chance.randrange(end), chance.randrange(end)
    return (parts_of_world(words, size, one & other), parts_of_world(words, size, one | other))


def is_within(low, high):
    return all(one & other == one for one, other in zip(low[1] + low[2], high[1] + high[2]))


def lies_between(part, world):
    return is_within(part[0], world) and is_within(world, part[1])


def flat_expressions(words):
    """Each sort of expression, over names and bare words alone."""
    atoms = [("name", name) for name in words[0] + words[1]] + BARES
    made = list(atoms)
    made += [(sort, one) for sort in ONES for one in atoms]
    made += [(sort, one, other) for sort in TWOS for one in atoms for other in atoms]
    return made


def some_expression(words, depth, chance):
    names = words[0] + words[1]
    if depth == 0 or chance.randrange(8) == 0:
        if names and chance.randrange(4):
            return ("name", chance.choice(names))
        return chance.choice(BARES)
    sort = chance.choice(TWOS + TWOS + ONES)
    number = 2 if sort in TWOS else 1
    return (sort,) + tuple(some_expression(words, depth - 1, chance) for place in range(number))


def some_fact(words, depth, chance):
    sort = chance.choice(["in", "equal", "some", "no"] + COUNTS)
    last = some_expression(words, depth, chance)
    if sort in ("in", "equal"):
        return (sort, some_expression(words, depth, chance), last)
    if sort in ("some", "no"):
        return (sort, last)
    return (sort, chance.choice([0, 1, 2, 3, 4, 5, 9, 10, 16, 17, 99]), last)


def some_saying(words, depth, chance):
    if depth == 0 or chance.randrange(5) == 0:
        return some_fact(words, 2, chance)
    sort = chance.choice(["not", "and", "or"])
    number = 1 if sort == "not" else 2
    return (sort,) + tuple(some_saying(words, depth - 1, chance) for place in range(number))


def keeps_all(theory, world):
    words, sayings = theory
    return all(is_kept(words, world, saying) for saying in sayings)


def open_part(words, size):
    """The part-known world in which nothing is known but the size."""
    full = 2 ** how_many_bits(words, size) - 1
    return (parts_of_world(words, size, 0), parts_of_world(words, size, full))


def has_bit(words, world, name, a, b):
    return (a, b) in pairs_of_name(words, world, name)


def with_bit(words, world, name, a, b, is_set):
    """The world with the one bit set, or not set, and all others as they were."""
    size, kinds, ties = world
    if name in words[0]:
        place = words[0].index(name)
        things = {thing for thing in range(size) if kinds[place] // 2 ** thing % 2 == 1} - {a}
        kind = sum(2 ** thing for thing in things | ({a} if is_set else set()))
        return (size, kinds[:place] + (kind,) + kinds[place + 1:], ties)
    place = words[1].index(name)
    pairs = pairs_from_number(size, ties[place]) - {(a, b)} | ({(a, b)} if is_set else set())
    return (size, kinds, ties[:place] + (number_from_pairs(size, pairs),) + ties[place + 1:])


def halves_of(words, part, name, a, b):
    """The part-known worlds in which the bit is set in low, too, and is not set in high, either."""
    low, high = part
    return (with_bit(words, low, name, a, b, True), high), (low, with_bit(words, high, name, a, b, False))


def open_bits(words, part):
    """All (name, a, b) that are not set in low, but in high."""
    size = part[0][0]
    bits = [(name, a, a) for name in words[0] for a in range(size)]
    bits += [(name, a, b) for name in words[1] for a, b in sorted(all_pairs(size))]
    return [bit for bit in bits if has_bit(words, part[1], *bit) and not has_bit(words, part[0], *bit)]


def is_text(thing, *texts):
    return type(thing) is str and thing in texts


def is_number(thing, end):
    return type(thing) is int and 0 <= thing < end


def paper_shows(theory, part, paper):
    words, sayings = theory
    if type(paper) is not tuple or len(paper) not in (2, 6):
        return False
    if len(paper) == 2:
        if not is_text(paper[0], "broken") or not is_number(paper[1], len(sayings)):
            return False
        return truth_of(words, part, sayings[paper[1]]) is False
    sort, name, a, b, yes, no = paper
    size = part[0][0]
    if not is_text(sort, "split") or not is_text(name, *words[0], *words[1]):
        return False
    if not is_number(a, size) or not is_number(b, size) or (name, a, b) not in open_bits(words, part):
        return False
    halves = halves_of(words, part, name, a, b)
    return paper_shows(theory, halves[0], yes) and paper_shows(theory, halves[1], no)


def paper_holds(theory, size, paper):
    return paper_shows(theory, open_part(theory[0], size), paper)


def some_paper(theory, part, chance):
    """A paper that holds, its splits by chance; None where a world keeps the theory."""
    words, sayings = theory
    truths = [truth_of(words, part, saying) for saying in sayings]
    if False in truths:
        return ("broken", chance.choice([number for number, truth in enumerate(truths) if truth is False]))
    bits = open_bits(words, part)
    if not bits:
        return None
    bit = chance.choice(bits)
    papers = [some_paper(theory, half, chance) for half in halves_of(words, part, *bit)]
    return None if None in papers else ("split",) + bit + tuple(papers)


def all_renamings(size):
    return [tuple(row) for row in itertools.permutations(range(size))]


def world_renamed(words, world, renaming):
    size, kinds, ties = world
    new_kinds = []
    for kind in kinds:
        things = {renaming[a] for a in range(size) if kind // 2 ** a % 2 == 1}
        new_kinds.append(sum(2 ** thing for thing in things))
    new_ties = []
    for tie in ties:
        pairs = {(renaming[a], renaming[b]) for a, b in pairs_from_number(size, tie)}
        new_ties.append(number_from_pairs(size, pairs))
    return (size, tuple(new_kinds), tuple(new_ties))


def worlds_alike(words, world):
    """All worlds alike to one, each once."""
    return {world_renamed(words, world, renaming) for renaming in all_renamings(world[0])}


def least_alike(words, world):
    return min(worlds_alike(words, world), key=lambda one: code_of_world(words, one))


def is_world(words, size, thing):
    if type(thing) is not tuple or len(thing) != 3 or type(thing[0]) is not int or thing[0] != size:
        return False
    if [type(part) for part in thing[1:]] != [tuple, tuple]:
        return False
    if [len(part) for part in thing[1:]] != [len(names) for names in words]:
        return False
    ends = [2 ** size] * len(words[0]) + [2 ** (size * size)] * len(words[1])
    return all(is_number(value, end) for value, end in zip(thing[1] + thing[2], ends))


def is_told_of_following(theory, size, saying, answer):
    """Whether the answer shows that the saying follows from the theory, or that it does not."""
    words, sayings = theory
    if type(answer) is not tuple or len(answer) != 2:
        return False
    if answer[0] == "paper":
        return paper_holds((words, sayings + (("not", saying),)), size, answer[1])
    if answer[0] != "world" or not is_world(words, size, answer[1]):
        return False
    return keeps_all(theory, answer[1]) and not is_kept(words, answer[1], saying)


def is_quarrel(theory, size, answer):
    words, sayings = theory
    if type(answer) is not tuple or len(answer) != 3:
        return False
    numbers, paper, worlds = answer
    if type(numbers) is not list or type(worlds) is not list or len(worlds) != len(numbers):
        return False
    if not all(is_number(number, len(sayings)) for number in numbers) or sorted(set(numbers)) != numbers:
        return False
    chosen = [sayings[number] for number in numbers]
    if not paper_holds((words, tuple(chosen)), size, paper):
        return False
    if not all(is_world(words, size, world) for world in worlds):
        return False
    truths = [[is_kept(words, world, saying) for saying in chosen] for world in worlds]
    return truths == [[place != other for other in range(len(numbers))] for place in range(len(numbers))]


def is_told_of_two(one, other, most, answer):
    """Whether the answer shows that two theories say the same up to a size, or parts them."""
    words, sides = one[0], (one, other)
    if type(answer) is not tuple or len(answer) != {"same": 2, "world": 3}.get(answer[0]):
        return False
    if answer[0] == "world":
        world, side = answer[1:]
        if not is_number(side, 2) or not any(is_world(words, size, world) for size in range(most + 1)):
            return False
        return keeps_all(sides[side], world) and not keeps_all(sides[1 - side], world)
    asked = [(size, side, number) for size in range(most + 1) for side in (0, 1)
             for number in range(len(sides[side][1]))]
    if type(answer[1]) is not list or [row[:3] for row in answer[1]] != asked:
        return False
    for row in answer[1]:
        if type(row) is not tuple or [type(part) for part in row[:3]] != [int] * 3 or len(row) != 4:
            return False
        size, side, number, paper = row
        if not is_told_of_following(sides[1 - side], size, sides[side][1][number], ("paper", paper)):
            return False
    return True
