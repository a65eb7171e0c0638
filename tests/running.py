"""A second way to run things: word by word, over the facts of tests/model.py."""

from tests.model import facts_of, told

BEGUN = {"number": 0, "truth": False, "list": ()}


class Over(Exception):
    """It is over: args are what tried tells."""


def kind(worth):
    return {bool: "truth", int: "number", tuple: "list"}[type(worth)]


class Second:
    """A thing, of parts right or not, by the facts of its tree."""

    def __init__(self, shelf, tree):
        facts = facts_of(shelf, tree)
        self.rows = {deed: forms[0] for deed, forms in told(facts, "abcdefgh").items()}
        self.kinds = {cell: kinds[0] for cell, kinds in told(facts, "pqrs").items() if len(kinds) == 1}
        self.worths = {cell: BEGUN[self.kinds[cell]] for cell in self.kinds}
        self.left = 0

    def call(self, deed, worth):
        """Tell what tried tells; the cells are as they were where it is over."""
        self.left, kept = 1000, dict(self.worths)
        try:
            return ("told", self.within(deed, worth, 1))
        except Over as end:
            self.worths = kept
            return end.args

    def within(self, deed, worth, calls):
        if deed not in self.rows:
            raise Over("wrong")
        if calls == 22:
            raise Over("long")
        return self.word(self.rows[deed][3], worth, calls)

    def word(self, body, own, calls):
        if self.left == 0:
            raise Over("long")
        self.left -= 1
        return getattr(self, "do_" + body[0])(body, own, calls)

    def arms(self, body, own, calls, *kinds):
        """The worths of all arms, which must be of these kinds."""
        worths = [self.word(arm, own, calls) for arm in body[-len(kinds):]]
        for worth, wanted in zip(worths, kinds):
            if wanted not in (kind(worth), "any"):
                raise Over("wrong")
        return worths

    def do_number(self, body, own, calls):
        return body[1]

    def do_truth(self, body, own, calls):
        return body[1]

    def do_empty(self, body, own, calls):
        return ()

    def do_argument(self, body, own, calls):
        return own

    def do_cell(self, body, own, calls):
        if body[1] not in self.kinds:
            raise Over("wrong")
        return self.worths[body[1]]

    def numbers(self, body, own, calls, what):
        made = what(*self.arms(body, own, calls, "number", "number"))
        return 999 if made > 999 else -999 if made < -999 else made

    def do_plus(self, *given):
        return self.numbers(*given, lambda x, y: x + y)

    def do_less(self, *given):
        return self.numbers(*given, lambda x, y: x - y)

    def do_times(self, *given):
        return self.numbers(*given, lambda x, y: x * y)

    def do_below(self, *given):
        x, y = self.arms(*given, "number", "number")
        return x < y

    def do_same(self, *given):
        x, y = self.arms(*given, "any", "any")
        return (kind(x), x) == (kind(y), y)

    def do_not(self, *given):
        return self.arms(*given, "truth") == [False]

    def test(self, body, own, calls):
        worth = self.word(body[1], own, calls)
        if worth is not True and worth is not False:
            raise Over("wrong")
        return worth

    def do_and(self, body, own, calls):
        return self.test(body, own, calls) and self.arms(body, own, calls, "truth")[0]

    def do_if(self, body, own, calls):
        return self.word(body[2] if self.test(body, own, calls) else body[3], own, calls)

    def do_put(self, *given):
        number, rows = self.arms(*given, "number", "list")
        return rows if len(rows) == 8 else (number, *rows)

    def do_first(self, *given):
        return (self.arms(*given, "list")[0] + (0,))[0]

    def do_rest(self, *given):
        return self.arms(*given, "list")[0][1:]

    def do_many(self, *given):
        return len(self.arms(*given, "list")[0])

    def do_set(self, body, own, calls):
        worth = self.word(body[2], own, calls)
        if self.kinds.get(body[1]) != kind(worth):
            raise Over("wrong")
        self.worths[body[1]] = worth
        return worth

    def do_then(self, *given):
        return self.arms(*given, "any", "any")[1]

    def do_call(self, body, own, calls):
        return self.within(body[1], self.arms(body, own, calls, "any")[0], calls + 1)
