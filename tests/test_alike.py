"""[11]."""

import unittest

from partdeeds.trees import alike, parted
from tests.samples import ARGUMENT, ONE, TRUE, ask, call, deed, of, part, with_all

A = part("A", [deed("a", call("c")), deed("b")], [ask("c")], [("p", "number"), ("q", "list")])
B = part("B", [deed("c", ONE)], [], [("q", "truth"), ("r", "list")])
C = part("C", [deed("b"), deed("h")])
D = part("D")
E = part("E", [], [ask("a")], [("q", "list")])
SHELF = [A, B, C, D, E]


class Alike(unittest.TestCase):
    def alike(self, one, other, shelf=SHELF):
        for left, right in ((one, other), (other, one)):
            self.assertIs(alike(shelf, left, right), True)
            self.assertIsNone(parted(shelf, left, right))

    def parted(self, one, other, name, shelf=SHELF):
        for left, right in ((one, other), (other, one)):
            self.assertIs(alike(shelf, left, right), False)
            self.assertEqual(parted(shelf, left, right), name)

    def test_with_itself(self):
        for tree in (of("A"), of("D"), with_all(of("A"), of("B"), of("C"))):
            self.alike(tree, tree)

    def test_put_together_otherwise(self):
        self.alike(with_all(of("A"), of("B")), with_all(of("B"), of("A")))
        self.alike(("over", of("A"), "B"), with_all(of("A"), of("B")))
        self.alike(("without", of("A"), "h"), of("A"))
        self.alike(("without", of("B"), "c"), ("renamed", ("without", of("B"), "c"), "a", "h"))

    def test_one_deed_more(self):
        self.parted(of("A"), ("without", of("A"), "b"), "b")
        self.parted(of("A"), ("also", of("A"), "b", "h"), "h")
        self.parted(of("A"), ("with", of("A"), of("C")), "b")

    def test_one_cell_more(self):
        self.parted(of("D"), of("E"), "q")
        self.parted(("without", of("B"), "c"), of("D"), "q")
        self.parted(of("A"), ("with", of("A"), ("without", of("B"), "c")), "q")

    def test_a_cell_of_another_kind(self):
        self.parted(of("E"), ("without", of("B"), "c"), "q")
        shelf = [part("A", [], [], [("s", "truth")]), part("B", [], [], [("s", "number")])]
        self.parted(of("A"), of("B"), "s", shelf)
        self.parted(of("A"), with_all(of("A"), of("B")), "s", shelf)
        self.alike(with_all(of("B"), of("A")), with_all(of("A"), of("B")), shelf)

    def test_an_ask_does_not_part(self):
        shelf = [part("A", [], [ask("a")]), part("B", [], [ask("b")])]
        self.alike(of("A"), of("B"), shelf)

    def test_forms_of_another_origin(self):
        shelf = [part("A", [deed("a")]), part("B", [deed("a")])]
        self.parted(of("A"), of("B"), "a", shelf)
        shelf = [part("A", [deed("a"), deed("b")])]
        swapped = ("renamed", ("renamed", ("renamed", of("A"), "a", "h"), "b", "a"), "h", "b")
        self.parted(of("A"), swapped, "a", shelf)

    def test_forms_with_another_body(self):
        self.parted(of("A"), ("renamed", of("A"), "c", "d"), "a")
        shelf = [part("A", [deed("a", call("h"))])]
        self.parted(of("A"), ("renamed", of("A"), "h", "b"), "a", shelf)

    def test_several_forms(self):
        one = with_all(of("A"), of("C"))
        self.alike(one, with_all(of("C"), of("A"), of("C")))
        self.parted(one, of("A"), "b")
        self.parted(one, ("over", of("A"), "C"), "b")
        self.parted(one, ("over", of("C"), "A"), "b")

    def test_the_first_as_texts_rise(self):
        self.parted(of("A"), of("D"), "a")
        self.parted(of("B"), of("C"), "b")
        self.parted(with_all(of("A"), of("B")), of("A"), "c")
        self.parted(with_all(of("E"), of("C")), ("over", ("without", of("B"), "c"), "C"), "q")
        self.parted(("without", of("C"), "b"), of("E"), "h")

    def test_deeds_are_ahead_of_cells(self):
        shelf = [part("A", [deed("h")], [], [("p", "list")]), part("B")]
        self.parted(of("A"), of("B"), "h", shelf)
        self.parted(("without", of("A"), "h"), of("B"), "p", shelf)

    def test_kinds_of_a_deed(self):
        shelf = [part("A", [deed("a", ARGUMENT)]), part("B", [deed("a", TRUE, "list", "truth")])]
        self.parted(of("A"), of("B"), "a", shelf)

    def test_the_shelf_stays_and_the_same_is_told_again(self):
        shelf = list(SHELF)
        one, other = with_all(of("A"), of("B")), ("over", of("B"), "A")
        told = [alike(shelf, one, other), parted(shelf, one, of("C"))]
        self.assertEqual(shelf, SHELF)
        self.assertEqual([alike(shelf, one, other), parted(shelf, one, of("C"))], told)
        self.assertEqual(told, [True, "a"])
