"""What bodies and trees have in common: words with arms, some of them nests again."""

MOST_AROUND = 9


def size_of(nest, arms_of, fits, around=0):
    """Tell how many nests there are, itself and all within it; 0 if one of them can't be.

    arms_of tells the sorts of a word's arms, or None if there is no such word;
    fits tells of a sort and an arm whether it is such. An arm of the sort
    "nest" is a nest again, and is not asked of fits.
    """
    if around > MOST_AROUND or not isinstance(nest, tuple) or not nest:
        return 0
    sorts = arms_of(nest[0])
    if sorts is None or len(sorts) != len(nest) - 1:
        return 0
    total = 1
    for sort, arm in zip(sorts, nest[1:]):
        if sort == "nest":
            inner = size_of(arm, arms_of, fits, around + 1)
            if inner == 0:
                return 0
            total += inner
        elif not fits(sort, arm):
            return 0
    return total
