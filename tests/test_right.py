"""[5], and the kinds of [3]."""

import unittest

from partdeeds.parts import right
from tests.samples import ARGUMENT, CELLS, EMPTY, ONE, TRUE, ask, call, deed, part, sums

KINDS = ("number", "truth", "list")
ASKS = (ask("b", "number", "truth"), ask("c", "list", "number"), ask("d", "truth", "list"))
OF_KIND = {"number": ONE, "truth": TRUE, "list": EMPTY}

# For words of bodies alone: the kinds of their arms, and their own.
ARMS = {
    "plus": [("number", "number", "number")],
    "less": [("number", "number", "number")],
    "times": [("number", "number", "number")],
    "below": [("number", "number", "truth")],
    "same": [(kind, kind, "truth") for kind in KINDS],
    "not": [("truth", "truth")],
    "and": [("truth", "truth", "truth")],
    "if": [("truth", kind, kind, kind) for kind in KINDS],
    "put": [("number", "list", "list")],
    "first": [("list", "number")],
    "rest": [("list", "list")],
    "many": [("list", "number")],
    "then": [(kind, other, other) for kind in KINDS for other in KINDS],
}


def rows_of(kinds, many):
    """All rows of so many kinds."""
    rows = [()]
    for _ in range(many):
        rows = [row + (kind,) for row in rows for kind in kinds]
    return rows


class Right(unittest.TestCase):
    def told(self, body, takes, tells):
        return right(part("A", [deed("a", body, takes, tells)], ASKS, CELLS))

    def is_kind(self, body, kind, takes="number"):
        """The body is right where the deed tells this kind, and nowhere else; no kind: nowhere."""
        for tells in KINDS:
            self.assertEqual(self.told(body, takes, tells), None if tells == kind else "a", (body, tells))

    def test_words_without_bodies(self):
        self.is_kind(("number", -99), "number")
        self.is_kind(("number", 99), "number")
        self.is_kind(("truth", True), "truth")
        self.is_kind(("truth", False), "truth")
        self.is_kind(EMPTY, "list")

    def test_the_argument_is_of_the_kind_that_the_deed_takes(self):
        for takes in KINDS:
            self.is_kind(ARGUMENT, takes, takes)

    def test_a_cell_is_of_its_kind(self):
        for cell, kind in CELLS:
            self.is_kind(("cell", cell), kind)
        self.is_kind(("cell", "s"), None)

    def test_arms_of_each_row_of_kinds(self):
        for word in ARMS:
            told = {row[:-1]: row[-1] for row in ARMS[word]}
            for row in rows_of(KINDS, len(ARMS[word][0]) - 1):
                body = (word,) + tuple(OF_KIND[kind] for kind in row)
                self.is_kind(body, told.get(row))

    def test_a_set_is_of_the_kind_of_its_cell(self):
        for cell, kind in CELLS:
            for other in KINDS:
                self.is_kind(("set", cell, OF_KIND[other]), kind if kind == other else None)
        for kind in KINDS:
            self.is_kind(("set", "s", OF_KIND[kind]), None)

    def test_a_call_of_an_ask(self):
        for name, takes, tells in ASKS:
            for kind in KINDS:
                self.is_kind(call(name, OF_KIND[kind]), tells if kind == takes else None)

    def test_a_call_of_a_deed_that_it_gives(self):
        for takes in KINDS:
            for tells in KINDS:
                other = deed("e", OF_KIND[tells], takes, tells)
                for kind in KINDS:
                    for whole in KINDS:
                        told = right(part("A", [deed("a", call("e", OF_KIND[kind]), "number", whole), other]))
                        self.assertEqual(told, None if (kind, whole) == (takes, tells) else "a")

    def test_a_call_of_itself(self):
        self.assertIsNone(right(part("A", [deed("a", call("a"), "list", "list")])))
        self.assertIsNone(right(part("A", [deed("a", call("a"), "list", "number")])))
        self.assertEqual(right(part("A", [deed("a", call("a", ONE), "list", "list")])), "a")

    def test_a_call_of_a_deed_that_it_neither_gives_nor_asks_for(self):
        for kind in KINDS:
            self.is_kind(call("h", OF_KIND[kind]), None)

    def test_what_is_wrong_within_is_wrong(self):
        wrong = ("plus", ONE, TRUE)
        self.is_kind(("then", wrong, ONE), None)
        self.is_kind(("then", ("cell", "s"), ONE), None)
        self.is_kind(("then", ("call", "h", ONE), ONE), None)
        self.is_kind(("same", wrong, wrong), None)
        self.is_kind(("if", TRUE, wrong, wrong), None)
        self.is_kind(("call", "b", wrong), None)
        self.is_kind(("set", "p", wrong), None)
        self.is_kind(("then", ("then", ("same", wrong, ONE), ONE), ONE), None)

    def test_words_within_one_another(self):
        body = ("if", ("and", ("below", ("first", ("put", ARGUMENT, EMPTY)), ("cell", "p")), ("not", call("b"))),
                ("then", ("set", "q", ("same", ("rest", ("cell", "r")), call("d", TRUE))), call("c", EMPTY)),
                ("less", ("many", EMPTY), ("times", ONE, ("set", "p", ONE))))
        self.is_kind(body, "number")

    def test_a_body_of_sixty_words(self):
        self.is_kind(("set", "p", sums(30)), "number")
        self.is_kind(("set", "q", sums(30)), None)

    def test_a_part_without_deeds(self):
        self.assertIsNone(right(part("A")))
        self.assertIsNone(right(part("F", [], ASKS, CELLS)))

    def test_the_first_deed_that_is_not_right(self):
        good, bad = ONE, TRUE
        self.assertIsNone(right(part("B", [deed("b", good), deed("c", good), deed("h", good)])))
        self.assertEqual(right(part("B", [deed("b", good), deed("c", bad), deed("h", bad)])), "c")
        self.assertEqual(right(part("B", [deed("b", good), deed("c", good), deed("h", bad)])), "h")
        self.assertEqual(right(part("B", [deed("b", bad), deed("c", good), deed("h", bad)])), "b")

    def test_a_right_body_may_call_a_deed_whose_own_body_is_wrong(self):
        self.assertEqual(right(part("A", [deed("a", call("b")), deed("b", TRUE)])), "b")

    def test_asked_again_the_same_is_told(self):
        wrong = part("A", [deed("a"), deed("b", TRUE)])
        self.assertEqual([right(wrong), right(part("B")), right(wrong)], ["b", None, "b"])
