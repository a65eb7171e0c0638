"""Shelves and trees: what they are."""

from partdeeds.errors import BadShelf, BadTree
from partdeeds.names import DEED_NAMES
from partdeeds.nests import size_of
from partdeeds.parts import check_part

MOST_PARTS = 6
MOST_TREES = 40

TREE_ARMS = {
    "part": ("part",),
    "with": ("nest", "nest"),
    "without": ("nest", "deed"),
    "also": ("nest", "deed", "deed"),
    "renamed": ("nest", "deed", "deed"),
    "over": ("nest", "part"),
}


def tree_arms(word):
    """Tell the sorts of the arms of a tree's word, None if there is no such word."""
    if not isinstance(word, str):
        return None
    return TREE_ARMS.get(word)


def check_shelf(shelf):
    """Refuse what is no shelf, and ahead of that what on it is no part."""
    for part in shelf:
        check_part(part)
    if len(shelf) > MOST_PARTS:
        raise BadShelf("a seventh part")
    names = [part[0] for part in shelf]
    if len(set(names)) != len(names):
        raise BadShelf("a name twice")


def named_in(tree):
    """Tell the list of the parts' names in a tree."""
    named = []
    for sort, arm in zip(TREE_ARMS[tree[0]], tree[1:]):
        if sort == "part":
            named.append(arm)
        if sort == "nest":
            named.extend(named_in(arm))
    return named


def check_tree(shelf, tree):
    """Refuse what is no tree over the shelf, which is one."""
    names = [part[0] for part in shelf]

    def fits_tree(sort, arm):
        if sort == "part":
            return arm in names
        return arm in DEED_NAMES

    if not 1 <= size_of(tree, tree_arms, fits_tree) <= MOST_TREES:
        raise BadTree("no tree of this shelf")
