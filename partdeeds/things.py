"""Things: what is made of whole trees, and what trees that aren't right come to."""

from partdeeds.errors import BadCall, Long, NotRight, NotWhole
from partdeeds.parts import right
from partdeeds.puts import put_together
from partdeeds.runs import Run, Wrong
from partdeeds.shelves import named_in
from partdeeds.wants import check_whole, wants_of
from partdeeds.worths import FIRST_WORTHS, worth_kind


def check_right(shelf, tree):
    """Refuse the first part on the shelf that isn't right, of those that the tree names."""
    named = named_in(tree)
    for part in shelf:
        if part[0] in named and right(part) is not None:
            raise NotRight(part[0])


def bodies_of(deeds):
    """Tell the body of each deed; none of them has several forms."""
    return {deed: deeds[deed][0][3] for deed in deeds}


def first_worths(cells):
    """Tell what each cell begins as, those left out that have two kinds."""
    return {cell: FIRST_WORTHS[cells[cell][0]] for cell in cells if len(cells[cell]) == 1}


class Thing:
    """A thing made of right parts, put together to a whole."""

    def __init__(self, shelf, tree):
        deeds, cells = put_together(shelf, tree)
        check_right(shelf, tree)
        check_whole(deeds, cells)
        self.kinds = {deed: deeds[deed][0][1:3] for deed in deeds}
        self.bodies = bodies_of(deeds)
        self.worths = first_worths(cells)

    def call(self, deed, worth):
        """Tell what a deed tells, this worth being its argument."""
        if deed not in self.kinds or worth_kind(worth) != self.kinds[deed][0]:
            raise BadCall("no such deed, or no such worth")
        run = Run(self.bodies, dict(self.worths))
        told = run.called(deed, worth, 0)
        # Not ahead of here, since a call that is too long changes no cell.
        self.worths = run.worths
        return told

    def deeds(self):
        """Tell the rising list of (deed, takes, tells)."""
        return [(deed,) + self.kinds[deed] for deed in sorted(self.kinds)]

    def cells(self):
        """Tell the rising list of (cell, worth)."""
        return [(cell, self.worths[cell]) for cell in sorted(self.worths)]


def tried(shelf, tree, deed, worth):
    """Tell what a new thing's call would, though its parts may not be right."""
    deeds, cells = put_together(shelf, tree)
    clashes, lacks, unfit, unlike = wants_of(deeds, cells)
    if clashes or lacks:
        raise NotWhole("clashes or lacks")
    if deed not in deeds or worth_kind(worth) is None:
        raise BadCall("no such deed, or no worth")
    run = Run(bodies_of(deeds), first_worths(cells))
    try:
        return ("told", run.called(deed, worth, 0))
    except Long:
        return ("long",)
    except Wrong:
        return ("wrong",)
