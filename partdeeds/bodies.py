"""Bodies: what they are, and what they call."""

from partdeeds.names import CELL_NAMES, DEED_NAMES
from partdeeds.nests import size_of
from partdeeds.worths import is_number

MOST_WORDS = 60
GREATEST_IN_BODIES = 99

BODY_ARMS = {
    "number": ("number",),
    "truth": ("truth",),
    "empty": (),
    "argument": (),
    "cell": ("cell",),
    "plus": ("nest", "nest"),
    "less": ("nest", "nest"),
    "times": ("nest", "nest"),
    "below": ("nest", "nest"),
    "same": ("nest", "nest"),
    "not": ("nest",),
    "and": ("nest", "nest"),
    "if": ("nest", "nest", "nest"),
    "put": ("nest", "nest"),
    "first": ("nest",),
    "rest": ("nest",),
    "many": ("nest",),
    "set": ("cell", "nest"),
    "then": ("nest", "nest"),
    "call": ("deed", "nest"),
}


def body_arms(word):
    """Tell the sorts of the arms of a body's word, None if there is no such word."""
    if not isinstance(word, str):
        return None
    return BODY_ARMS.get(word)


def fits_body(sort, arm):
    """Tell whether an arm, which is no body, is of this sort."""
    if sort == "number":
        return is_number(arm, GREATEST_IN_BODIES)
    if sort == "truth":
        return isinstance(arm, bool)
    if sort == "cell":
        return arm in CELL_NAMES
    return arm in DEED_NAMES


def is_body(body):
    """Tell whether it is a body, right or not."""
    return 1 <= size_of(body, body_arms, fits_body) <= MOST_WORDS


def bodies_in(body):
    """Tell those arms of a body that are bodies, in turn."""
    return [arm for arm in body[1:] if isinstance(arm, tuple)]


def called_in(body):
    """Tell the list of the deeds that a body calls, once for each call."""
    called = [body[1]] if body[0] == "call" else []
    for arm in bodies_in(body):
        called.extend(called_in(arm))
    return called


def renamed_body(body, deed, new):
    """Tell the body with new called wherever it calls the deed."""
    arms = [renamed_body(arm, deed, new) if isinstance(arm, tuple) else arm for arm in body]
    if body[0] == "call" and body[1] == deed:
        arms[1] = new
    return tuple(arms)
