"""Which parts give what a tree lacks."""

from partdeeds.puts import own, put_together, put_with
from partdeeds.wants import is_whole


def group_order(names):
    """Tell that by which lists of names are put in order: the fewest ahead."""
    return (len(names), names)


def groups_of(names):
    """Tell the list of all lists, themselves rising, of some or none of these rising names."""
    groups = [[]]
    for name in names:
        groups = groups + [group + [name] for group in groups]
    return sorted(groups, key=group_order)


def givers(shelf, tree):
    """Tell the fewest names of parts that make the tree whole, None if none do."""
    deeds, cells = put_together(shelf, tree)
    owned = {part[0]: own(part) for part in shelf}
    for names in groups_of(sorted(owned)):
        all_deeds, all_cells = deeds, cells
        for name in names:
            all_deeds = put_with(all_deeds, owned[name][0])
            all_cells = put_with(all_cells, owned[name][1])
        if is_whole(all_deeds, all_cells):
            return names
    return None
