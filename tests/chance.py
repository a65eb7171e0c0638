"""Shelves and trees by chance, the same in each run."""

import random

KINDS = ("number", "truth", "list")


def body_of(chance, around=0):
    word = chance.choice(("number", "truth", "argument", "cell", "call", "call", "plus", "then", "if", "set"))
    if around > 3 and word in ("call", "plus", "then", "if", "set"):
        word = "argument"
    if word == "number":
        return (word, chance.randint(-99, 99))
    if word == "truth":
        return (word, chance.random() < 0.5)
    if word == "argument":
        return (word,)
    if word == "cell":
        return (word, chance.choice("pqrs"))
    if word in ("call", "set"):
        return (word, chance.choice("abcdefgh" if word == "call" else "pqrs"), body_of(chance, around + 1))
    return (word,) + tuple(body_of(chance, around + 1) for _ in range(3 if word == "if" else 2))


def few_words(chance):
    while True:
        body = body_of(chance)
        if str(body).count("(") <= 60:
            return body


def part_of(chance, name):
    deeds, asks = [], []
    # Few kinds, so that what is needed fits often enough.
    kinds = ("number", "number", "number", "truth")
    for deed in "abcdefgh":
        ask = (deed, chance.choice(kinds), chance.choice(kinds))
        use = chance.random()
        if use < 0.3:
            deeds.append(ask + (few_words(chance),))
        elif use < 0.8:
            asks.append(ask)
    cells = tuple((cell, chance.choice(KINDS)) for cell in "pqrs" if chance.random() < 0.4)
    return (name, tuple(deeds), tuple(asks), cells)


def shelf_of(chance):
    names = list("ABCDEF")[:chance.randint(1, 6)]
    chance.shuffle(names)
    return [part_of(chance, name) for name in names]


def tree_of(chance, shelf, most):
    """A tree of at most so many, within one another."""
    name = chance.choice(shelf)[0]
    if most < 3:
        return ("part", name)
    word = chance.choice(("with", "with", "with", "without", "also", "renamed", "over"))
    if word == "with":
        half = most // 2
        return (word, tree_of(chance, shelf, half), tree_of(chance, shelf, half))
    inner = tree_of(chance, shelf, most - 1 if most < 6 else most * 2 // 3)
    if word == "over":
        return (word, inner, name)
    if word == "without":
        return (word, inner, chance.choice("abcdefgh"))
    return (word, inner, chance.choice("abcdefgh"), chance.choice("abcdefgh"))


def cases(many, seed):
    """So many shelves, each with three trees of at most ten over it."""
    chance = random.Random(seed)
    for _ in range(many):
        shelf = shelf_of(chance)
        yield (shelf,) + tuple(tree_of(chance, shelf, 10) for _ in range(3))
