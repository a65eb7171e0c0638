"""Notes: parts and trees as texts."""

from partdeeds.errors import BadText
from partdeeds.nests import misplaced, read_nest, written_nest
from partdeeds.parts import check_part
from partdeeds.shelves import check_shelf, check_tree, tree_arms
from partdeeds.texts import fits_word, row_of, worth_of_word

# The words that rows begin with, in the order of the rows.
ROW_ORDER = ("part", "deed", "ask", "cell")


def written(part):
    """Tell a part's text: a row for each of its members' rows."""
    check_part(part)
    name, deeds, asks, cells = part
    rows = ["part " + name]
    for deed, takes, tells, body in deeds:
        rows.append(" ".join(["deed", deed, takes, tells, written_nest(body)]))
    for ask in asks:
        rows.append(" ".join(["ask", *ask]))
    for cell in cells:
        rows.append(" ".join(["cell", *cell]))
    return "\n".join(rows)


def written_tree(shelf, tree):
    """Tell a tree's text."""
    check_shelf(shelf)
    check_tree(shelf, tree)
    return written_nest(tree)


def may_follow(word, before):
    """Tell whether a row of this first word may stand behind one of the other, or "" at the beginning."""
    if before == "" or word == "part":
        return before == "" and word == "part"
    return ROW_ORDER.index(before) <= ROW_ORDER.index(word)


def read_rows(text):
    """Tell the rows of a text, a dict of lists by their first words; refuse the first that can't be there."""
    rows = {word: [] for word in ROW_ORDER}
    before = ""
    for at, line in enumerate(text.split("\n")):
        words = line.split(" ")
        row = row_of(words)
        if row is None or not may_follow(words[0], before):
            raise BadText(at)
        before = words[0]
        rows[before].append(row)
    return rows


def read(text):
    """Tell the part that a text is written of."""
    rows = read_rows(text)
    part = (rows["part"][0][0], tuple(rows["deed"]), tuple(rows["ask"]), tuple(rows["cell"]))
    check_part(part)
    return part


def read_tree(shelf, text):
    """Tell the tree over the shelf that a text is written of."""
    check_shelf(shelf)
    words = text.split(" ")
    place = misplaced(words, tree_arms, fits_word)
    if place is not None:
        raise BadText(place)
    tree = read_nest(words, tree_arms, worth_of_word)
    check_tree(shelf, tree)
    return tree
