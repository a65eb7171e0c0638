"""The kinds, and the names that deeds, cells and parts may have."""

KINDS = ("number", "truth", "list")
DEED_NAMES = ("a", "b", "c", "d", "e", "f", "g", "h")
CELL_NAMES = ("p", "q", "r", "s")
PART_NAMES = ("A", "B", "C", "D", "E", "F")
