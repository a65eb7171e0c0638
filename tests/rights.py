"""Shelves of right parts, and rows of calls, by chance; the same in each run."""

import random

from partdeeds.trees import wanting
from tests.chance import KINDS, tree_of

LEAVES = {"number": ("number", "number", "argument", "cell"), "truth": ("truth", "argument", "cell"),
          "list": ("empty", "argument", "cell")}
WORDS = {"number": ("plus", "less", "times", "first", "many", "if", "then", "set", "call"),
         "truth": ("below", "same", "not", "and", "if", "then", "set", "call"),
         "list": ("put", "put", "rest", "if", "then", "set", "call")}
ARMS = {"plus": ("number", "number"), "less": ("number", "number"), "times": ("number", "number"),
        "first": ("list",), "many": ("list",), "below": ("number", "number"), "not": ("truth",),
        "and": ("truth", "truth"), "put": ("number", "list"), "rest": ("list",)}


class Bodies:
    """Bodies that are right where the argument, these deeds and these cells are such."""

    def __init__(self, chance, takes, calls, cells):
        self.chance, self.takes, self.calls, self.cells = chance, takes, calls, cells

    def body(self, kind, most, around=0):
        """A body of this kind, of at most so many words, within so many others."""
        if most > 1 and around < 9 and self.chance.random() < 0.9:
            return self.within(self.chance.choice(WORDS[kind]), kind, most - 1, around + 1)
        word = self.chance.choice(LEAVES[kind])
        if word == "argument" and self.takes == kind:
            return (word,)
        cells = [cell for cell in self.cells if self.cells[cell] == kind]
        if word == "cell" and cells:
            return (word, self.chance.choice(cells))
        return self.plain(kind)

    def plain(self, kind):
        if kind == "number":
            return (kind, self.chance.choice((-99, -7, -1, 0, 1, 2, 50, 99)))
        return ("empty",) if kind == "list" else (kind, self.chance.random() < 0.5)

    def within(self, word, kind, most, around):
        if word in ("set", "call"):
            return self.with_name(word, kind, most, around)
        if word == "if":
            kinds = ("truth", kind, kind)
        elif word == "same":
            kinds = (self.chance.choice(KINDS),) * 2
        elif word == "then":
            kinds = (self.chance.choice(KINDS), kind)
        else:
            kinds = ARMS[word]
        if most < len(kinds):
            return self.plain(kind)
        return (word, *[self.body(arm, most // len(kinds), around) for arm in kinds])

    def with_name(self, word, kind, most, around):
        if word == "set":
            names = [(cell, kind) for cell in self.cells if self.cells[cell] == kind]
        else:
            names = [(deed, takes) for deed, (takes, tells) in self.calls.items() if tells == kind]
        if not names:
            return self.plain(kind)
        name, arm = self.chance.choice(names)
        return (word, name, self.body(arm, most, around))


def right_part(chance, name, signs, kinds, own):
    """A part that gives its own deeds and asks for what else it may call."""
    given = sorted(own)
    asked = [deed for deed in sorted(signs) if deed not in own and chance.random() < 0.7]
    calls = {deed: signs[deed] for deed in given + asked}
    cells = {cell: kinds[cell] for cell in "pqrs" if chance.random() < 0.5}
    deeds = []
    for deed in given:
        takes, tells = signs[deed]
        body = Bodies(chance, takes, calls, cells).body(tells, chance.choice((3, 8, 20, 40)))
        deeds.append((deed, takes, tells, body))
    return (name, tuple(deeds), tuple((deed, *signs[deed]) for deed in asked), tuple(sorted(cells.items())))


def right_shelf(chance, fewest=1):
    """Parts whose kinds fit one another; few deeds are given by two."""
    signs = {deed: (chance.choice(KINDS), chance.choice(KINDS)) for deed in "abcdefgh"}
    kinds = {cell: chance.choice(KINDS) for cell in "pqrs"}
    names = list("ABCDEF")[:chance.randint(fewest, 6)]
    own = {name: [] for name in names}
    for deed in signs:
        for name in chance.sample(names, 1 if chance.random() < 0.9 else min(2, len(names))):
            own[name].append(deed)
    shelf = [right_part(chance, name, signs, kinds, own[name]) for name in names]
    chance.shuffle(shelf)
    return shelf


def whole_cases(many, seed):
    """So many shelves of right parts, each with a whole tree over it."""
    chance = random.Random(seed)
    while many:
        shelf = right_shelf(chance)
        tree = changed(chance, all_of(chance, shelf)) if chance.random() < 0.7 else tree_of(chance, shelf, 8)
        if wanting(shelf, tree) == ([], [], [], []):
            many -= 1
            yield shelf, tree


def all_of(chance, shelf):
    """All parts of the shelf, put with or over one another."""
    tree = ("part", shelf[0][0])
    for name, _, _, _ in shelf[1:]:
        tree = chance.choice((("with", tree, ("part", name)), ("over", tree, name)))
    return tree


def changed(chance, tree):
    """The tree with some deeds named otherwise, or a second time, or left out."""
    for _ in range(chance.randint(0, 3)):
        word = chance.choice(("renamed", "renamed", "also", "without"))
        names = (chance.choice("abcdefgh"), chance.choice("abcdefgh"))
        tree = (word, tree, *(names[:1] if word == "without" else names))
    return tree


def worth_of(chance, kind):
    if kind == "truth":
        return chance.random() < 0.5
    numbers = (-999, -998, -99, -2, -1, 0, 1, 2, 3, 10, 99, 998, 999)
    if kind == "number":
        return chance.choice(numbers)
    return tuple(chance.choice(numbers) for _ in range(chance.choice((0, 1, 2, 7, 8))))


def calls_of(chance, deeds, most=40):
    """A row of calls of these deeds, (deed, takes, tells) each."""
    row = []
    for _ in range(chance.randint(1, most) if deeds else 0):
        deed, takes, _ = chance.choice(deeds)
        row.append((deed, worth_of(chance, takes)))
    return row
