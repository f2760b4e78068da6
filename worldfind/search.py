"""For a theory and a size a world that keeps it, or a paper which shows that there is none."""

from worldfind.errors import NoWorld
from worldfind.papers import MOST_BITS, Cases
from worldfind.worlds import check_bits


# The names in a saying or an expression.
def names_in(thing):
    if thing[0] == "name":
        return [thing[1]]
    names = []
    for inner in thing[1:]:
        # The K of a saying is no tuple.
        if isinstance(inner, tuple):
            names.extend(names_in(inner))
    return names


# The bits of all names of a saying: nothing else can settle it.
def needed_bits(cases, saying):
    names = names_in(saying)
    needed = 0
    for number, place in enumerate(cases.places):
        if place[0] in names:
            needed = needed | (1 << number)
    return needed


def how_many_set(number):
    total = 0
    while number > 0:
        # Less one, the lowest bit that is set is not set, and those below it are.
        number = number & (number - 1)
        total = total + 1
    return total


class Search:
    def __init__(self, theory, size):
        self.cases = Cases(theory, size)
        self.needs = [needed_bits(self.cases, saying) for saying in theory[1]]

    # Of just the sayings of these numbers, and a paper with these numbers.
    def told_of_sayings(self, numbers):
        return self.told_of_case(numbers, 0, self.cases.whole)

    # The saying that is nearest to being settled has a bit taken first.
    def chosen_place(self, numbers, low, high):
        left = [self.needs[number] & high & ~low for number in numbers]
        fewest = min(left, key=how_many_set)
        # A number and its negative have just the lowest bit that is set in common.
        return (fewest & -fewest).bit_length() - 1

    # `numbers` are of the sayings that are open in the case around: a settled one stays as it is.
    def told_of_case(self, numbers, low, high):
        still = []
        for number in numbers:
            truth = self.cases.truth(number, low, high)
            if truth is False:
                return ("paper", ("broken", number))
            if truth is None:
                still.append(number)
        if still == []:
            return ("world", self.cases.world_of_code(low))
        return self.told_of_halves(still, low, high)

    def told_of_halves(self, numbers, low, high):
        place = self.chosen_place(numbers, low, high)
        bit = 1 << place
        yes = self.told_of_case(numbers, low | bit, high)
        # Where the bit was of no use to the paper, the other half need not be gone through.
        if yes[0] == "world" or self.cases.is_shown(yes[1], low, high):
            return yes
        no = self.told_of_case(numbers, low, high & ~bit)
        if no[0] == "world":
            return no
        name, a, b = self.cases.places[place]
        return ("paper", ("split", name, a, b, yes[1], no[1]))


def found(theory, size):
    check_bits(theory[0], size, MOST_BITS)
    return Search(theory, size).told_of_sayings(list(range(len(theory[1]))))


def smallest(theory, most):
    check_bits(theory[0], most, MOST_BITS)
    papers = []
    for size in range(most + 1):
        sort, answer = found(theory, size)
        if sort == "world":
            return (answer, papers)
        papers.append(answer)
    raise NoWorld(papers)
