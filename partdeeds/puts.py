"""Putting together. What is put together is told as two dicts.

The first has for each deed that is there the list of its forms, none twice;
the second has for each cell the list of its kinds, none twice. No step changes
the dicts or lists of another one.
"""

from partdeeds.bodies import called_in, renamed_body
from partdeeds.nests import written_nest
from partdeeds.parts import calls_of
from partdeeds.shelves import check_shelf, check_tree


def put_with(one, other):
    """Tell the rows of both dicts, each once under its key."""
    merged = {key: list(one[key]) for key in one}
    for key in other:
        rows = merged.setdefault(key, [])
        for row in other[key]:
            if row not in rows:
                rows.append(row)
    return merged


def own_form(part, row):
    """Tell the one form of a deed of the part."""
    deed, takes, tells, body = row
    calls = calls_of(part)
    # A part that isn't right may call what it neither gives nor asks for:
    # of such a deed there are no kinds to tell.
    called = [name for name in sorted(set(called_in(body))) if name in calls]
    needs = tuple([(name, calls[name][0], calls[name][1]) for name in called])
    return ((part[0], deed), takes, tells, body, needs)


def own(part):
    """Tell what the part by itself has."""
    deeds = {row[0]: [own_form(part, row)] for row in part[1]}
    cells = {cell: [kind] for cell, kind in part[3]}
    return deeds, cells


def without(deeds, deed):
    """Tell the deeds but this one."""
    return {name: deeds[name] for name in deeds if name != deed}


def also(deeds, deed, new):
    """Tell the deeds, new having the deed's forms beside its own."""
    return put_with(deeds, {new: deeds[deed]}) if deed in deeds else deeds


def renamed_form(form, deed, new):
    """Tell the form with new in place of the deed in its body and needs."""
    origin, takes, tells, body, needs = form
    swapped = sorted({(new if need[0] == deed else need[0], need[1], need[2]) for need in needs})
    return (origin, takes, tells, renamed_body(body, deed, new), tuple(swapped))


def renamed(deeds, deed, new):
    """Tell the deeds, all that was the deed's, and all calls of it, being new's."""
    told = {}
    for name in deeds:
        # Forms that differed in the two names alone become one here.
        swapped = [renamed_form(form, deed, new) for form in deeds[name]]
        told = put_with(told, {new if name == deed else name: swapped})
    return told


def over(deeds, others):
    """Tell the deeds, those that are among the others too having only the others' forms."""
    return {**deeds, **others}


def changed(deeds, tree):
    """Tell the deeds behind the topmost word of a tree that is about one deed."""
    if tree[0] == "without":
        return without(deeds, tree[2])
    if tree[0] == "also":
        return also(deeds, tree[2], tree[3])
    return renamed(deeds, tree[2], tree[3])


def grown(parts, tree):
    """Tell what a tree over the parts, a dict by their names, has."""
    word = tree[0]
    if word == "part":
        return own(parts[tree[1]])
    deeds, cells = grown(parts, tree[1])
    if word == "with":
        others, more = grown(parts, tree[2])
        return put_with(deeds, others), put_with(cells, more)
    if word == "over":
        others, more = own(parts[tree[2]])
        return over(deeds, others), put_with(cells, more)
    return changed(deeds, tree), cells


def put_together(shelf, tree):
    """Tell what a tree has; refuse the shelf, or else the tree, if it is none."""
    check_shelf(shelf)
    check_tree(shelf, tree)
    return grown({part[0]: part for part in shelf}, tree)


def form_order(form):
    """Tell that by which the forms of one deed are put in order."""
    return (form[0], written_nest(form[3]))
