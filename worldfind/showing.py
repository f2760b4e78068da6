"""Expressions and sayings shown as texts, with no more brackets than reading them again needs."""

SIGNS = {"plus": "+", "less": "-", "both": "&", "joined": ".", "turned": "~", "closed": "^"}
WORDS = {
    "in": "in", "equal": "=", "some": "some", "no": "no", "least": "least", "most": "most",
    "eachleast": "each least", "eachmost": "each most",
}
# How firmly the parts of each sort hold together; what is not listed needs no brackets anywhere.
EXPRESSION_RANKS = {"plus": 1, "less": 1, "both": 2, "joined": 3}
ATOM_RANK = 4
SAYING_RANKS = {"or": 1, "and": 2}
UNIT_RANK = 3


def expression_of_rank(expression, least_rank):
    text = shown_expression(expression)
    if EXPRESSION_RANKS.get(expression[0], ATOM_RANK) < least_rank:
        return f"({text})"
    return text


def shown_expression(expression):
    sort = expression[0]
    if sort == "name":
        return expression[1]
    if sort in ("same", "all", "none"):
        return sort
    sign = SIGNS[sort]
    if sort in ("turned", "closed"):
        return sign + expression_of_rank(expression[1], ATOM_RANK)
    rank = EXPRESSION_RANKS[sort]
    left = expression_of_rank(expression[1], rank)
    # Texts are taken from the left, so the same rank on the right needs brackets.
    right = expression_of_rank(expression[2], rank + 1)
    return f"{left} {sign} {right}"


def saying_of_rank(saying, least_rank):
    text = shown_saying(saying)
    if SAYING_RANKS.get(saying[0], UNIT_RANK) < least_rank:
        return f"[{text}]"
    return text


def shown_fact(fact):
    word = WORDS[fact[0]]
    last = shown_expression(fact[-1])
    if fact[0] in ("in", "equal"):
        first = shown_expression(fact[1])
        return f"{first} {word} {last}"
    if fact[0] in ("some", "no"):
        return f"{word} {last}"
    limit = fact[1]
    return f"{word} {limit} {last}"


def shown_saying(saying):
    sort = saying[0]
    if sort == "not":
        return "not " + saying_of_rank(saying[1], UNIT_RANK)
    if sort in ("and", "or"):
        rank = SAYING_RANKS[sort]
        left = saying_of_rank(saying[1], rank)
        right = saying_of_rank(saying[2], rank + 1)
        return f"{left} {sort} {right}"
    return shown_fact(saying)
