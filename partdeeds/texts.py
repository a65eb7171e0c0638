"""The words of texts: what may stand where, and what it stands for."""

from partdeeds.bodies import body_arms
from partdeeds.names import CELL_NAMES, DEED_NAMES, KINDS, PART_NAMES
from partdeeds.nests import misplaced, read_nest

MOST_FIGURES = 3
TRUTHS = ("True", "False")

# The sorts of words behind a row's first; a deed's body comes behind these.
ROW_ARMS = {
    "part": ("part",),
    "deed": ("deed", "kind", "kind"),
    "ask": ("deed", "kind", "kind"),
    "cell": ("cell", "kind"),
}


def is_number_word(word):
    """Tell whether a word is a number, written as it has to be."""
    figures = word.removeprefix("-")
    if not figures.isascii() or not figures.isdigit() or len(figures) > MOST_FIGURES:
        return False
    return str(int(word)) == word


def fits_word(sort, word):
    """Tell whether a word may stand for an arm of this sort."""
    if sort == "number":
        return is_number_word(word)
    if sort == "truth":
        return word in TRUTHS
    if sort == "kind":
        return word in KINDS
    if sort == "part":
        return word in PART_NAMES
    return word in (CELL_NAMES if sort == "cell" else DEED_NAMES)


def worth_of_word(word):
    """Tell what a word that is an arm stands for."""
    if word in TRUTHS:
        return word == "True"
    return int(word) if is_number_word(word) else word


def row_of(words):
    """Tell what stands behind a row's first word, None if these are no row's words."""
    sorts = ROW_ARMS.get(words[0])
    if sorts is None or len(words) <= len(sorts):
        return None
    behind = len(sorts) + 1
    heads, others = words[1:behind], words[behind:]
    if not all([fits_word(sort, word) for sort, word in zip(sorts, heads)]):
        return None
    if words[0] != "deed":
        return None if others else tuple(heads)
    if misplaced(others, body_arms, fits_word) is not None:
        return None
    return tuple(heads) + (read_nest(others, body_arms, worth_of_word),)
