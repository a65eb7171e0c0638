"""The one part that does the same as a whole tree."""

from partdeeds.puts import put_together
from partdeeds.wants import check_whole


def flat(shelf, tree, name):
    """Tell the part of this name with all the deeds and cells of the tree; refuse one that isn't whole."""
    deeds, cells = put_together(shelf, tree)
    check_whole(deeds, cells)
    # A whole tree's deeds have one form each, its cells one kind.
    rows = [(deed,) + deeds[deed][0][1:4] for deed in sorted(deeds)]
    kept = [(cell, cells[cell][0]) for cell in sorted(cells)]
    return (name, tuple(rows), (), tuple(kept))
