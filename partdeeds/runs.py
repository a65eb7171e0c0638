"""Runs: what bodies come to."""

from partdeeds.bodies import bodies_in
from partdeeds.errors import Long
from partdeeds.kinds import FIXED
from partdeeds.worths import made, worth_kind

MOST_STEPS = 1000
MOST_AROUND = 20


class Wrong(Exception):
    """A word can't go on with what its arms came to, or with its cell or deed."""


def comes(word, at, worths):
    """Tell whether the arm at this place comes, those ahead of it having come to these worths."""
    if at == 0 or word not in ("if", "and"):
        return True
    if worth_kind(worths[0]) != "truth":
        raise Wrong("no truth to go by")
    # An "if" has an arm for False at the place 2, an "and" has none.
    return worths[0] == (at == 1)


def check_kinds(word, worths):
    """Refuse worths of other kinds than the word's arms are to be of."""
    if word in FIXED:
        arms = FIXED[word][0]
        # Of an "and" the second arm may not have come.
        if tuple([worth_kind(worth) for worth in worths]) != arms[:len(worths)]:
            raise Wrong("an arm of another kind")


class Run:
    """One call of a deed, with all the calls within it.

    bodies has the body of each deed that is there, worths what each cell is;
    the run changes the worths.
    """

    def __init__(self, bodies, worths):
        self.bodies = bodies
        self.worths = worths
        self.steps = 0

    def take_step(self):
        """Count one more step."""
        self.steps += 1
        if self.steps > MOST_STEPS:
            raise Long("more than a thousand steps")

    def called(self, deed, argument, around):
        """Tell what a deed tells, its call being within so many others."""
        if deed not in self.bodies:
            raise Wrong("no such deed")
        if around > MOST_AROUND:
            raise Long("within more than twenty others")
        return self.come_to(self.bodies[deed], argument, around)

    def looked_up(self, cell):
        """Tell what a cell is."""
        if cell not in self.worths:
            raise Wrong("no such cell")
        return self.worths[cell]

    def put_in(self, cell, worth):
        """Make the worth the cell's, and tell it."""
        if worth_kind(self.looked_up(cell)) != worth_kind(worth):
            raise Wrong("a cell of another kind")
        self.worths[cell] = worth
        return worth

    def come_to(self, body, argument, around):
        """Tell what a body comes to, in a call that is within so many others."""
        self.take_step()
        word = body[0]
        worths = []
        for at, arm in enumerate(bodies_in(body)):
            if comes(word, at, worths):
                worths.append(self.come_to(arm, argument, around))
        if word in ("number", "truth"):
            return body[1]
        if word == "argument":
            return argument
        if word == "cell":
            return self.looked_up(body[1])
        if word == "set":
            return self.put_in(body[1], worths[0])
        if word == "call":
            return self.called(body[1], worths[0], around + 1)
        check_kinds(word, worths)
        return made(word, worths)
