"""The kinds of bodies."""

from partdeeds.bodies import bodies_in

# For words whose kinds rest on nothing else: their arms' kinds, and their own.
FIXED = {
    "number": ((), "number"),
    "truth": ((), "truth"),
    "empty": ((), "list"),
    "plus": (("number", "number"), "number"),
    "less": (("number", "number"), "number"),
    "times": (("number", "number"), "number"),
    "below": (("number", "number"), "truth"),
    "not": (("truth",), "truth"),
    "and": (("truth", "truth"), "truth"),
    "put": (("number", "list"), "list"),
    "first": (("list",), "number"),
    "rest": (("list",), "list"),
    "many": (("list",), "number"),
}


def kind_by_arms(word, kinds):
    """Tell the kind of a word by the kinds of its arms alone, None if these are wrong."""
    if word in FIXED:
        arms, told = FIXED[word]
        return told if tuple(kinds) == arms else None
    if word == "same":
        return "truth" if kinds[0] == kinds[1] else None
    if word == "if":
        return kinds[1] if kinds[0] == "truth" and kinds[1] == kinds[2] else None
    # What is left is "then", whose first arm may be of any kind.
    return kinds[1]


def kind_of(body, takes, calls, cells):
    """Tell the kind of a body, None if it isn't right.

    takes is the argument's kind; calls tells of each deed that may be called
    what it takes and tells, cells of each cell its kind.
    """
    kinds = [kind_of(arm, takes, calls, cells) for arm in bodies_in(body)]
    if None in kinds:
        return None
    word = body[0]
    if word == "argument":
        return takes
    if word == "cell":
        return cells.get(body[1])
    if word == "set":
        return kinds[0] if cells.get(body[1]) == kinds[0] else None
    if word == "call":
        asked, told = calls.get(body[1], (None, None))
        return told if asked == kinds[0] else None
    return kind_by_arms(word, kinds)
