"""[1] to [4]: what bodies and parts are, and which ones are refused."""

import unittest

from partdeeds.errors import BadPart
from partdeeds.notes import written
from partdeeds.parts import right
from tests.samples import ARGUMENT, EMPTY, ONE, TRUE, ask, call, deed, nots, part, sums

NO_TEXTS = (1, 0, True, False, (), ("a",), ("A",), ("number",))


def deep(many):
    """A tuple that is within so many others."""
    told = ()
    for _ in range(many):
        told = (told,)
    return told


class Refusals(unittest.TestCase):
    def refused(self, wrong, why):
        for ask in (right, written):
            with self.assertRaises(BadPart) as told:
                ask(wrong)
            self.assertEqual(told.exception.why, why, wrong)

    def accepted(self, good):
        self.assertIn(right(good), (None, "a", "b", "c", "d", "e", "f", "g", "h"))

    def body_accepted(self, body):
        self.accepted(part("A", [deed("a", body)]))

    def body_refused(self, body):
        self.refused(part("A", [deed("a", body)]), "deeds")


class Names(Refusals):
    def test_each_name_of_a_part(self):
        for name in "ABCDEF":
            self.accepted(part(name))

    def test_no_other_name(self):
        for name in ("G", "a", "", "AB", "A ", "ABCDEF") + NO_TEXTS:
            self.refused(part(name), "name")

    def test_each_name_of_a_deed(self):
        for name in "abcdefgh":
            self.accepted(part("A", [deed(name)]))
            self.accepted(part("A", [], [ask(name)]))
            self.body_accepted(call(name))

    def test_no_other_name_of_a_deed(self):
        for name in ("i", "A", "p", "", "ab", "a ") + NO_TEXTS:
            self.refused(part("A", [deed(name)]), "deeds")
            self.refused(part("A", [], [ask(name)]), "asks")
            self.body_refused(call(name))

    def test_each_name_of_a_cell(self):
        for name in "pqrs":
            self.accepted(part("A", [], [], [(name, "list")]))
            self.body_accepted(("cell", name))
            self.body_accepted(("set", name, ONE))

    def test_no_other_name_of_a_cell(self):
        for name in ("o", "t", "a", "P", "", "pq") + NO_TEXTS:
            self.refused(part("A", [], [], [(name, "list")]), "cells")
            self.body_refused(("cell", name))
            self.body_refused(("set", name, ONE))


class Kinds(Refusals):
    def test_each_kind(self):
        for kind in ("number", "truth", "list"):
            self.accepted(part("A", [deed("a", ARGUMENT, kind, kind)], [ask("b", kind, kind)], [("p", kind)]))

    def test_no_other_kind(self):
        for kind in ("text", "", "Number", "numbers") + NO_TEXTS:
            self.refused(part("A", [deed("a", ARGUMENT, kind, "number")]), "deeds")
            self.refused(part("A", [deed("a", ARGUMENT, "number", kind)]), "deeds")
            self.refused(part("A", [], [ask("b", kind, "number")]), "asks")
            self.refused(part("A", [], [ask("b", "number", kind)]), "asks")
            self.refused(part("A", [], [], [("p", kind)]), "cells")


class Bodies(Refusals):
    def test_numbers(self):
        for number in (-99, -1, 0, 1, 99):
            self.body_accepted(("number", number))
        for number in (-100, 100, 999, True, False, "1", "", (), (1,)):
            self.body_refused(("number", number))

    def test_truths(self):
        for truth in (True, False):
            self.body_accepted(("truth", truth))
        for truth in (0, 1, "True", "", (), (True,)):
            self.body_refused(("truth", truth))

    def test_words_without_bodies_have_the_arms_that_they_have(self):
        for body in (("number",), ("truth",), ("cell",), ("number", 1, 1), ("truth", True, True), ("cell", "p", "p"),
                     ("empty", ()), ("empty", EMPTY), ("argument", ARGUMENT), ("argument", 1), ("cell", "p", ONE)):
            self.body_refused(body)

    def test_words_of_bodies_have_as_many_as_they_have(self):
        many = {"plus": 2, "less": 2, "times": 2, "below": 2, "same": 2, "not": 1, "and": 2, "if": 3,
                "put": 2, "first": 1, "rest": 1, "many": 1, "then": 2}
        for word in many:
            for count in range(5):
                body = (word,) + (ONE,) * count
                if count == many[word]:
                    self.body_accepted(body)
                else:
                    self.body_refused(body)

    def test_words_of_a_name_and_a_body(self):
        for word, name in (("set", "p"), ("call", "a")):
            self.body_accepted((word, name, ONE))
            for arms in ((), (name,), (ONE,), (ONE, name), (name, name), (name, ONE, ONE), (name, ())):
                self.body_refused((word,) + arms)

    def test_no_other_words(self):
        for body in (("divide", ONE, ONE), ("Plus", ONE, ONE), ("",), (ARGUMENT,), (ONE, ONE), (1,), (True,), (),
                     ("plus argument", ONE), "argument", "empty", "", 1, True):
            self.body_refused(body)

    def test_each_arm_that_is_a_body_is_one(self):
        for wrong in ((), "argument", 1, True, ("no",), ("number", 100), ("number", True), ("argument", 1)):
            self.body_refused(("not", wrong))
            self.body_refused(("plus", wrong, ONE))
            self.body_refused(("plus", ONE, wrong))
            self.body_refused(("if", TRUE, ONE, wrong))
            self.body_refused(("set", "p", wrong))
            self.body_refused(("not", ("not", ("then", ONE, wrong))))

    def test_sixty_words(self):
        sixty = ("call", "a", sums(30))
        self.assertIsNone(right(part("A", [deed("a", sixty)])))
        self.assertIsNone(right(part("A", [deed("a", sums(30))])))
        self.body_refused(sums(31))
        self.body_refused(("call", "a", ("call", "a", sums(30))))
        self.body_refused(sums(400))

    def test_within_nine_others(self):
        self.assertIsNone(right(part("A", [deed("a", nots(9), "number", "truth")])))
        self.body_refused(nots(10))
        self.body_refused(nots(11))
        self.body_refused(("plus", ONE, ("first", nots(9))))
        self.body_accepted(("plus", ONE, ("first", nots(7))))
        self.body_refused(deep(50))
        self.body_refused((deep(50),))
        self.body_refused(("cell", deep(50)))


class Parts(Refusals):
    def test_short_ones(self):
        self.refused((), "name")
        self.refused(("A",), "deeds")
        self.refused(("A", ()), "asks")
        self.refused(("A", (), ()), "cells")

    def test_a_long_one(self):
        self.refused(("A", (), (), (), ()), "cells")

    def test_rows_are_tuples_of_tuples(self):
        for rows in ("", "a", 0, 1, True, ("a",), (1,), ((),), (True,), (("a",),), ("abcd",), ("abc",), ("pq",)):
            self.refused(("A", rows, (), ()), "deeds")
            self.refused(("A", (), rows, ()), "asks")
            self.refused(("A", (), (), rows), "cells")

    def test_rows_have_as_many_as_they_have(self):
        self.refused(part("A", [deed("a")[:3]]), "deeds")
        self.refused(part("A", [deed("a") + (ARGUMENT,)]), "deeds")
        self.refused(part("A", [], [ask("a")[:2]]), "asks")
        self.refused(part("A", [], [deed("a")]), "asks")
        self.refused(part("A", [], [], [("p",)]), "cells")
        self.refused(part("A", [], [], [("p", "number", "number")]), "cells")

    def test_eight_deeds(self):
        eight = [deed(name) for name in "abcdefgh"]
        self.assertIsNone(right(part("A", eight)))
        self.refused(part("A", eight + [deed("i")]), "deeds")
        self.refused(part("A", eight + [deed("h")]), "deeds")

    def test_eight_asks(self):
        eight = [ask(name) for name in "abcdefgh"]
        self.assertIsNone(right(part("A", [], eight)))
        self.refused(part("A", [], eight + [ask("i")]), "asks")
        self.refused(part("A", [], eight + [ask("h")]), "asks")

    def test_four_cells(self):
        four = [(name, "number") for name in "pqrs"]
        self.assertIsNone(right(part("A", [], [], four)))
        self.refused(part("A", [], [], four + [("t", "number")]), "cells")
        self.refused(part("A", [], [], four + [("s", "number")]), "cells")

    def test_names_are_unlike_and_rise(self):
        for names in ("ba", "aa", "acb", "aab", "abb", "hg"):
            self.refused(part("A", [deed(name) for name in names]), "deeds")
            self.refused(part("A", [], [ask(name) for name in names]), "asks")
        for names in ("qp", "pp", "prq", "ppq", "sr"):
            self.refused(part("A", [], [], [(name, "list") for name in names]), "cells")
        self.accepted(part("A", [deed("a"), deed("g")], [ask("b"), ask("h")], [("p", "list"), ("s", "list")]))

    def test_a_name_twice_though_the_kinds_are_unlike(self):
        self.refused(part("A", [deed("a"), deed("a", TRUE, "list", "truth")]), "deeds")
        self.refused(part("A", [], [ask("a"), ask("a", "list", "truth")]), "asks")
        self.refused(part("A", [], [], [("p", "list"), ("p", "number")]), "cells")

    def test_no_ask_is_for_a_deed_that_it_gives(self):
        self.refused(part("A", [deed("a")], [ask("a")]), "asks")
        self.refused(part("A", [deed("b"), deed("d")], [ask("a"), ask("d")]), "asks")
        self.refused(part("A", [deed("a")], [ask("a", "list", "truth")]), "asks")

    def test_the_first_that_can_not_be(self):
        bad = ("no",)
        self.refused(("G", bad, bad, bad), "name")
        self.refused(("A", bad, bad, bad), "deeds")
        self.refused(("A", (), bad, bad), "asks")
        self.refused(("A", (), (), bad), "cells")
        self.refused(("G",), "name")
        self.refused(("A", bad), "deeds")
        self.refused(("A", (), bad), "asks")

    def test_refused_ahead_of_a_body_that_is_not_right(self):
        self.refused(part("A", [deed("a", TRUE)], [], [("t", "list")]), "cells")
        self.refused(part("A", [deed("a", TRUE), deed("b", ("no",))]), "deeds")
