"""What is wanting of what is put together, which is told as two dicts (see puts)."""

from partdeeds.errors import NotWhole


def needs_of(deeds):
    """Tell the list of (deed, need) for each need of each form of each deed."""
    return [(deed, need) for deed in deeds for form in deeds[deed] for need in form[4]]


def all_fit(need, rows):
    """Tell whether all these forms take and tell what is needed."""
    return all([form[1:3] == need[1:] for form in rows])


def several(rows):
    """Tell the rising list of the keys under which there is more than one row."""
    return sorted([key for key in rows if len(rows[key]) > 1])


def wants_of(deeds, cells):
    """Tell (clashes, lacks, unfit, cells), rising lists."""
    needed = needs_of(deeds)
    lacks = sorted({need[0] for deed, need in needed if need[0] not in deeds})
    unfit = sorted({(deed, need[0]) for deed, need in needed if not all_fit(need, deeds.get(need[0], []))})
    return several(deeds), lacks, unfit, several(cells)


def is_whole(deeds, cells):
    """Tell whether nothing is wanting."""
    return not any([len(rows) > 0 for rows in wants_of(deeds, cells)])


def check_whole(deeds, cells):
    """Refuse what is not whole."""
    if not is_whole(deeds, cells):
        raise NotWhole("clashes, lacks, deeds that don't fit, or cells of two kinds")
