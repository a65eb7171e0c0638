"""Worths: numbers, truths and lists, and what words make of them."""

GREATEST = 999
MOST_LISTED = 8

# What the cells of each kind begin as.
FIRST_WORTHS = {"number": 0, "truth": False, "list": ()}


def is_number(worth, greatest):
    """Tell whether it is a number, no truth, from -greatest to greatest."""
    if isinstance(worth, bool) or not isinstance(worth, int):
        return False
    return -greatest <= worth <= greatest


def is_list(worth):
    """Tell whether it is a tuple of few enough numbers."""
    if not isinstance(worth, tuple) or len(worth) > MOST_LISTED:
        return False
    return all([is_number(one, GREATEST) for one in worth])


def worth_kind(worth):
    """Tell the kind of a worth, None of what is no worth."""
    if isinstance(worth, bool):
        return "truth"
    if is_number(worth, GREATEST):
        return "number"
    return "list" if is_list(worth) else None


def bounded(number):
    """Tell the number, or the bound that it is beyond."""
    return max(-GREATEST, min(GREATEST, number))


def plus(one, other):
    """Tell what both numbers make together."""
    return bounded(one + other)


def less(one, other):
    """Tell the first number less the second."""
    return bounded(one - other)


def times(one, other):
    """Tell the first number times the second."""
    return bounded(one * other)


def below(one, other):
    """Tell whether the first number is less."""
    return one < other


def same(one, other):
    """Tell whether both are the same worth; a number is never a truth."""
    return worth_kind(one) == worth_kind(other) and one == other


def opposite(truth):
    """Tell the other truth."""
    return not truth


def empty():
    """Tell the list of none."""
    return ()


def put(number, rows):
    """Tell the list with the number ahead, but a list of eight as it is."""
    return (number,) + rows if len(rows) < MOST_LISTED else rows


def first(rows):
    """Tell a list's first number."""
    return rows[0] if rows else 0


def rest(rows):
    """Tell the list of those behind the first."""
    return rows[1:]


def count_of(rows):
    """Tell how many numbers a list has."""
    return len(rows)


def last(*worths):
    """Tell the last one of these."""
    return worths[-1]


# What words make of their arms' worths, where they need nothing else. Of "if"
# and "and" only those arms are told that came.
MAKERS = {
    "empty": empty,
    "plus": plus,
    "less": less,
    "times": times,
    "below": below,
    "same": same,
    "not": opposite,
    "and": last,
    "if": last,
    "put": put,
    "first": first,
    "rest": rest,
    "many": count_of,
    "then": last,
}


def made(word, worths):
    """Tell what a word makes of its arms' worths, which are of the right kinds."""
    maker = MAKERS[word]
    return maker(*worths)
