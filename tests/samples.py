"""Bodies, parts and trees that several tests use."""

ARGUMENT = ("argument",)
ONE = ("number", 1)
TRUE = ("truth", True)
FALSE = ("truth", False)
EMPTY = ("empty",)

CELLS = (("p", "number"), ("q", "truth"), ("r", "list"))
# Cells keep what they are set to: so it is seen how often this came.
SET_P = ("set", "p", ("plus", ("cell", "p"), ONE))


def call(deed, body=ARGUMENT):
    return ("call", deed, body)


def of(name):
    return ("part", name)


def with_all(*trees):
    told = trees[0]
    for tree in trees[1:]:
        told = ("with", told, tree)
    return told


def deed(name, body=ARGUMENT, takes="number", tells="number"):
    return (name, takes, tells, body)


def ask(name, takes="number", tells="number"):
    return (name, takes, tells)


def part(name, deeds=(), asks=(), cells=()):
    return (name, tuple(deeds), tuple(asks), tuple(cells))


def sums(leaves):
    """A body of 2 * leaves - 1 words, within one another as little as can be."""
    if leaves == 1:
        return ARGUMENT
    half = leaves // 2
    return ("plus", sums(half), sums(leaves - half))


def filled(words):
    """A number's body of so many words, not two."""
    if words % 2:
        return sums((words + 1) // 2)
    return ("many", ("put", sums((words - 2) // 2), EMPTY))


def nots(many):
    """A truth within so many nots."""
    body = TRUE
    for _ in range(many):
        body = ("not", body)
    return body


def bush(leaves, tree=("part", "A")):
    """A tree of 2 * leaves - 1 trees, within one another as little as can be."""
    if leaves == 1:
        return tree
    half = leaves // 2
    return ("with", bush(half, tree), bush(leaves - half, tree))


def chain(many, tree=("part", "A")):
    """A tree within so many others."""
    for _ in range(many):
        tree = ("without", tree, "h")
    return tree


def rests(many):
    """A list within so many rests."""
    body = EMPTY
    for _ in range(many):
        body = ("rest", body)
    return body


def thens(bodies):
    """Bodies one behind the other, within one another as little as can be."""
    if len(bodies) == 1:
        return bodies[0]
    half = len(bodies) // 2
    return ("then", thens(bodies[:half]), thens(bodies[half:]))


def choice(test, one, other):
    return ("if", test, one, other)


def put_all(*numbers):
    """The list of these numbers."""
    body = EMPTY
    for number in reversed(numbers):
        body = ("put", ("number", number), body)
    return body


def counting(name, end=ARGUMENT):
    """A body that calls its deed with one less until that is below 1: so many calls within the first."""
    return choice(("below", ARGUMENT, ONE), end, call(name, ("less", ARGUMENT, ONE)))


def endless(name):
    """A body that calls its deed, and so on."""
    return call(name)


def thousand(more=0):
    """Deeds a, b and c: a call of a takes a thousand steps and so many (at most 20) more."""
    calls = [call("b")] * (19 - more) + [call("c")] * (1 + more)
    return [deed("a", thens(calls)), deed("b", sums(24)), deed("c", ("many", ("put", sums(23), EMPTY)))]
