"""What bodies and trees have in common: words with arms, some of them nests again."""

MOST_AROUND = 9


def size_of(nest, arms_of, fits, around=0):
    """Tell how many nests there are, itself and all within it; 0 if one of them can't be.

    arms_of tells the sorts of a word's arms, or None if there is no such word;
    fits tells of a sort and an arm whether it is such. An arm of the sort
    "nest" is a nest again, and is not asked of fits.
    """
    if around > MOST_AROUND or not isinstance(nest, tuple) or not nest:
        return 0
    sorts = arms_of(nest[0])
    if sorts is None or len(sorts) != len(nest) - 1:
        return 0
    total = 1
    for sort, arm in zip(sorts, nest[1:]):
        if sort == "nest":
            inner = size_of(arm, arms_of, fits, around + 1)
            if inner == 0:
                return 0
            total += inner
        elif not fits(sort, arm):
            return 0
    return total


def written_nest(nest):
    """Tell a nest's text: words with one blank between, each ahead of its arms."""
    words = [nest[0]]
    for arm in nest[1:]:
        words.append(written_nest(arm) if isinstance(arm, tuple) else str(arm))
    return " ".join(words)


def misplaced(words, arms_of, fits_word):
    """Tell the place of the first word that can't stand there, None if all are those of one nest.

    If more words must come, it is the place behind the last. fits_word tells of
    a sort and a word whether it may stand for an arm of this sort.
    """
    awaited = ["nest"]
    for at, word in enumerate(words):
        if not awaited:
            return at
        sort = awaited.pop()
        if sort != "nest":
            if not fits_word(sort, word):
                return at
        elif arms_of(word) is None:
            return at
        else:
            awaited.extend(arms_of(word)[::-1])
    return len(words) if awaited else None


def read_nest(words, arms_of, worth_of):
    """Tell the nest that these are the words of; worth_of tells what an arm's word stands for."""
    read = []
    # From the last word on, as then each word finds its arms read.
    for word in words[::-1]:
        sorts = arms_of(word)
        if sorts is None:
            read = [worth_of(word)] + read
        else:
            many = len(sorts)
            read = [(word,) + tuple(read[:many])] + read[many:]
    return read[0]
