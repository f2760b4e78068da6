"""What counts as a whole number, for all that is told by one: things, sizes, codes; and how texts write one."""

FIGURES = "0123456789"


def is_whole(thing):
    # Python holds True and False for ints.
    return isinstance(thing, int) and not isinstance(thing, bool)


def is_below(thing, end):
    return is_whole(thing) and 0 <= thing < end


# In at most so many figures, no 0 ahead but in 0 itself.
def is_written(text, most):
    if not 1 <= len(text) <= most or not all([sign in FIGURES for sign in text]):
        return False
    return text == "0" or not text.startswith("0")
