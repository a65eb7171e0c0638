"""Parts: what they are, and whether they are right by themselves."""

from partdeeds.bodies import is_body
from partdeeds.errors import BadPart
from partdeeds.kinds import kind_of
from partdeeds.names import CELL_NAMES, DEED_NAMES, KINDS, PART_NAMES

MOST_DEEDS = 8
MOST_CELLS = 4


def is_ask(row):
    """Tell whether a row is a deed's name, what it takes and what it tells."""
    return len(row) == 3 and row[0] in DEED_NAMES and row[1] in KINDS and row[2] in KINDS


def is_deed(row):
    """Tell whether a row is such as an ask, and a body behind it."""
    return len(row) == 4 and is_ask(row[:3]) and is_body(row[3])


def is_cell(row):
    """Tell whether a row is a cell's name and its kind."""
    return len(row) == 2 and row[0] in CELL_NAMES and row[1] in KINDS


def are_rows(rows, most, is_row):
    """Tell whether these are at most so many such rows, their names unlike and rising."""
    if not isinstance(rows, tuple) or len(rows) > most:
        return False
    for row in rows:
        if not isinstance(row, tuple) or not is_row(row):
            return False
    names = [row[0] for row in rows]
    return names == sorted(set(names))


def are_asks(rows, deeds):
    """Tell whether these are asks, all of them for other deeds than those given."""
    if not are_rows(rows, MOST_DEEDS, is_ask):
        return False
    given = [deed[0] for deed in deeds]
    return not any([row[0] in given for row in rows])


def fault_of(part):
    """Tell the first of a part that can't be, None if it is a part."""
    if not isinstance(part, tuple) or len(part) < 1 or part[0] not in PART_NAMES:
        return "name"
    if len(part) < 2 or not are_rows(part[1], MOST_DEEDS, is_deed):
        return "deeds"
    if len(part) < 3 or not are_asks(part[2], part[1]):
        return "asks"
    # Whatever stands behind the cells is taken for a fault of theirs.
    if len(part) != 4 or not are_rows(part[3], MOST_CELLS, is_cell):
        return "cells"
    return None


def check_part(part):
    """Refuse what is no part."""
    why = fault_of(part)
    if why is not None:
        raise BadPart(why)


def calls_of(part):
    """Tell of each deed that the part gives or asks for what it takes and tells."""
    return {row[0]: (row[1], row[2]) for row in part[1] + part[2]}


def right(part):
    """Tell None, or the first deed of the part whose body isn't right."""
    check_part(part)
    calls = calls_of(part)
    cells = {cell: kind for cell, kind in part[3]}
    for deed, takes, tells, body in part[1]:
        if kind_of(body, takes, calls, cells) != tells:
            return deed
    return None
