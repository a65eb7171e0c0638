"""[10]: the one part that does the same, and what has none."""

import unittest

from partdeeds.errors import NotWhole
from partdeeds.flats import flat
from partdeeds.parts import right
from partdeeds.trees import wanting
from tests.samples import ARGUMENT, EMPTY, ONE, TRUE, ask, call, deed, of, part, with_all

A = part("A", [deed("a", call("b"))], [ask("b")], [("q", "list")])
B = part("B", [deed("b", ("plus", ARGUMENT, ONE)), deed("d", EMPTY, "truth", "list")], [], [("p", "truth")])
SHELF = [A, B]
BOTH = ("with", of("A"), of("B"))


class Flat(unittest.TestCase):
    def test_a_part_by_itself(self):
        self.assertEqual(flat(SHELF, of("B"), "B"), B)
        self.assertEqual(flat(SHELF, of("B"), "E"), ("E",) + B[1:])

    def test_all_deeds_no_asks_and_all_cells_rising(self):
        told = part("C", [A[1][0]] + list(B[1]), [], [("p", "truth"), ("q", "list")])
        self.assertEqual(flat(SHELF, BOTH, "C"), told)
        self.assertEqual(flat(SHELF[::-1], ("with", of("B"), of("A")), "C"), told)

    def test_each_name_of_a_part(self):
        for name in "ABCDEF":
            self.assertEqual(flat(SHELF, BOTH, name)[0], name)

    def test_renamed_deeds_with_their_new_bodies(self):
        told = flat(SHELF, ("renamed", BOTH, "b", "h"), "A")
        self.assertEqual(told[1], (deed("a", call("h")), B[1][1], ("h",) + B[1][0][1:]))

    def test_a_deed_that_is_left_out_or_named_a_second_time(self):
        self.assertEqual(flat(SHELF, ("without", of("B"), "b"), "A")[1], (B[1][1],))
        self.assertEqual(flat(SHELF, ("also", of("B"), "b", "c"), "A")[1],
                         (B[1][0], ("c",) + B[1][0][1:], B[1][1]))

    def test_a_deed_that_is_put_over(self):
        new = part("C", [deed("b", ONE)], [], [("s", "list")])
        self.assertEqual(flat(SHELF + [new], ("over", BOTH, "C"), "F"),
                         part("F", [A[1][0], new[1][0], B[1][1]], [], [("p", "truth"), ("q", "list"), ("s", "list")]))

    def test_a_tree_without_deeds(self):
        self.assertEqual(flat([part("A")], of("A"), "B"), ("B", (), (), ()))
        self.assertEqual(flat([part("A", [], [ask("a")], [("r", "list")])], of("A"), "B"),
                         ("B", (), (), (("r", "list"),)))

    def test_eight_deeds_and_four_cells(self):
        shelf = [part(row[0], [deed(row[1], call(row[2])), deed(row[2])], [], [(row[3], "list")])
                 for row in ("Aabp", "Bcdq", "Cefr", "Dghs")]
        told = flat(shelf, with_all(of("D"), of("B"), of("C"), of("A")), "A")
        self.assertEqual([row[0] for row in told[1]], list("abcdefgh"))
        self.assertEqual([row[0] for row in told[3]], list("pqrs"))
        self.assertIsNone(right(told))

    def test_parts_need_not_be_right(self):
        wrong = part("A", [deed("a", TRUE), deed("b", call("h", ("cell", "p")))])
        self.assertEqual(flat([wrong], of("A"), "A"), wrong)

    def test_the_flat_part_is_whole_and_its_own_flat_part(self):
        told = flat(SHELF, BOTH, "A")
        self.assertEqual(wanting([told], of("A")), ([], [], [], []))
        self.assertEqual(flat([told], of("A"), "A"), told)


class NotWholeTrees(unittest.TestCase):
    def refused(self, shelf, tree):
        with self.assertRaises(NotWhole):
            flat(shelf, tree, "A")

    def test_a_clash(self):
        self.refused(SHELF + [part("C", [deed("b", ONE)])], with_all(of("A"), of("B"), of("C")))

    def test_a_lack(self):
        self.refused(SHELF, of("A"))
        self.refused(SHELF, ("without", BOTH, "b"))

    def test_an_unfit_deed(self):
        self.refused([A, part("B", [deed("b", ONE, "list")])], BOTH)
        self.refused([A, part("B", [deed("b", TRUE, "number", "truth")])], BOTH)

    def test_a_cell_of_two_kinds(self):
        self.refused([part("A", [], [], [("p", "list")]), part("B", [], [], [("p", "truth")])], BOTH)

    def test_asked_again_the_same_is_told(self):
        self.refused(SHELF, of("A"))
        self.assertEqual(flat(SHELF, BOTH, "A"), flat(SHELF, BOTH, "A"))
        self.refused(SHELF, of("A"))
