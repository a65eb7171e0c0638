"""Trees: what comes of putting together."""

from partdeeds.puts import form_order, put_together
from partdeeds.wants import wants_of


def forms(shelf, tree):
    """Tell the list of (deed, list of forms), all in order."""
    deeds, cells = put_together(shelf, tree)
    return [(deed, sorted(deeds[deed], key=form_order)) for deed in sorted(deeds)]


def wanting(shelf, tree):
    """Tell (clashes, lacks, unfit, cells), all empty if the tree is whole."""
    deeds, cells = put_together(shelf, tree)
    return wants_of(deeds, cells)


def same_rows(one, other):
    """Tell whether both have the same rows, in whatever order; neither has one twice."""
    return len(one) == len(other) and all([row in other for row in one])


def parted(shelf, one, other):
    """Tell the first deed or cell that is not the same in both trees, None if they are alike."""
    deeds, cells = put_together(shelf, one)
    others, more = put_together(shelf, other)
    # Deeds and cells never share a name, so one dict can hold both.
    left = {**deeds, **cells}
    opposite = {**others, **more}
    for name in sorted(set(list(left) + list(opposite))):
        if not same_rows(left.get(name, []), opposite.get(name, [])):
            return name
    return None


def alike(shelf, one, other):
    """Tell whether two trees have the same deeds, forms and cells."""
    return parted(shelf, one, other) is None
