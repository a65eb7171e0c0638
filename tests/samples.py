"""Bodies, parts and trees that several tests use."""

ARGUMENT = ("argument",)
ONE = ("number", 1)
TRUE = ("truth", True)
EMPTY = ("empty",)


def call(deed, body=ARGUMENT):
    return ("call", deed, body)


def of(name):
    return ("part", name)


def with_all(*trees):
    told = trees[0]
    for tree in trees[1:]:
        told = ("with", told, tree)
    return told


def deed(name, body=ARGUMENT, takes="number", tells="number"):
    return (name, takes, tells, body)


def ask(name, takes="number", tells="number"):
    return (name, takes, tells)


def part(name, deeds=(), asks=(), cells=()):
    return (name, tuple(deeds), tuple(asks), tuple(cells))


def sums(leaves):
    """A body of 2 * leaves - 1 words, within one another as little as can be."""
    if leaves == 1:
        return ARGUMENT
    half = leaves // 2
    return ("plus", sums(half), sums(leaves - half))


def nots(many):
    """A truth within so many nots."""
    body = TRUE
    for _ in range(many):
        body = ("not", body)
    return body


def bush(leaves, tree=("part", "A")):
    """A tree of 2 * leaves - 1 trees, within one another as little as can be."""
    if leaves == 1:
        return tree
    half = leaves // 2
    return ("with", bush(half, tree), bush(leaves - half, tree))


def chain(many, tree=("part", "A")):
    """A tree within so many others."""
    for _ in range(many):
        tree = ("without", tree, "h")
    return tree
