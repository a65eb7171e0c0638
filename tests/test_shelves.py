"""[6]: what shelves and trees are, which ones are refused, and which refusal comes first."""

import unittest

from partdeeds.errors import BadPart, BadShelf, BadTree
from partdeeds.flats import flat
from partdeeds.givers import givers
from partdeeds.notes import read_tree, written_tree
from partdeeds.things import Thing, tried
from partdeeds.trees import alike, forms, parted, wanting
from tests.samples import bush, chain, deed, of, part

A, B, C, D, E, F = [part(name, [deed("a")]) for name in "ABCDEF"]
SIX = [A, B, C, D, E, F]
NO_TREE = ("part", "X")


class Refusals(unittest.TestCase):
    def refused(self, error, shelf, tree, why=None):
        """Each that takes a shelf and a tree refuses these, ahead of all that is handed in behind."""
        asks = [lambda: forms(shelf, tree), lambda: wanting(shelf, tree),
                lambda: alike(shelf, tree, NO_TREE), lambda: parted(shelf, tree, NO_TREE),
                lambda: alike(shelf, tree, tree), lambda: parted(shelf, tree, tree),
                lambda: flat(shelf, tree, "A"), lambda: Thing(shelf, tree),
                lambda: tried(shelf, tree, "h", 1000), lambda: tried(shelf, tree, "a", 1),
                lambda: givers(shelf, tree), lambda: written_tree(shelf, tree)]
        if error is not BadTree:
            asks += [lambda: read_tree(shelf, ""), lambda: read_tree(shelf, "part A")]
        for ask in asks:
            with self.assertRaises(error) as told:
                ask()
            if why is not None:
                self.assertEqual(told.exception.why, why)

    def second_refused(self, shelf, tree):
        for ask in (alike, parted):
            with self.assertRaises(BadTree):
                ask(shelf, of("A"), tree)

    def accepted(self, shelf, tree):
        self.assertIsInstance(forms(shelf, tree), list)
        self.assertEqual(len(wanting(shelf, tree)), 4)
        self.assertIs(alike(shelf, tree, tree), True)
        self.assertIsNone(parted(shelf, tree, tree))


class Shelves(Refusals):
    def test_one_to_six_parts(self):
        for many in range(1, 7):
            self.accepted(SIX[:many], of("A"))
            self.accepted(SIX[::-1][:many], of("F"))

    def test_a_seventh_part(self):
        self.refused(BadShelf, SIX + [A], of("A"))
        self.refused(BadShelf, SIX + SIX, of("A"))

    def test_a_name_twice(self):
        self.refused(BadShelf, [A, A], of("A"))
        self.refused(BadShelf, [A, part("A")], of("A"))
        self.refused(BadShelf, [A, B, C, part("B")], of("A"))
        self.refused(BadShelf, [A, B, C, D, E, part("E")], of("A"))

    def test_a_bad_part_with_its_why(self):
        self.refused(BadPart, [A, part("G")], of("A"), "name")
        self.refused(BadPart, [part("B", [("a",)]), A], of("A"), "deeds")
        self.refused(BadPart, [A, B, part("C", [], ["a"])], of("A"), "asks")
        self.refused(BadPart, [part("A", [], [], [("t", "list")])], of("A"), "cells")
        self.refused(BadPart, [()], of("A"), "name")

    def test_bad_parts_in_turn(self):
        nameless, cellless = part("G"), part("A", [], [], [()])
        self.refused(BadPart, [B, cellless, nameless], of("B"), "cells")
        self.refused(BadPart, [B, nameless, cellless], of("B"), "name")

    def test_a_bad_part_ahead_of_a_name_twice(self):
        self.refused(BadPart, [A, A, part("G")], of("A"), "name")
        self.refused(BadPart, [A, part("A", [()])], of("A"), "deeds")

    def test_a_bad_part_ahead_of_a_seventh(self):
        self.refused(BadPart, SIX + [part("A", [()])], of("A"), "deeds")
        self.refused(BadPart, SIX + [A, part("G")], of("A"), "name")
        self.refused(BadPart, SIX[:5] + [part("F", [()]), A], of("A"), "deeds")

    def test_the_shelf_ahead_of_the_tree(self):
        self.refused(BadPart, [part("G")], NO_TREE, "name")
        self.refused(BadShelf, [A, A], NO_TREE)
        self.refused(BadShelf, [A, A], ())

    def test_a_part_need_not_be_right(self):
        self.accepted([part("A", [deed("a", ("truth", True))])], of("A"))

    def test_an_empty_shelf_has_no_trees(self):
        self.refused(BadTree, [], of("A"))


class Trees(Refusals):
    def test_each_word(self):
        for tree in (of("A"), of("B"), ("with", of("A"), of("B")), ("without", of("A"), "h"),
                     ("also", of("A"), "a", "b"), ("also", of("A"), "h", "h"), ("renamed", of("A"), "a", "b"),
                     ("renamed", of("A"), "h", "g"), ("over", of("A"), "B"), ("over", of("A"), "A")):
            self.accepted([A, B], tree)

    def test_names_of_no_part_of_the_shelf(self):
        for tree in (of("C"), of("G"), of("a"), of(""), of("AB"), of(()), of(("A",)), of(of("A")),
                     ("with", of("A"), of("C")), ("with", of("C"), of("A")), ("over", of("A"), "C"),
                     ("over", of("C"), "A"), ("over", of("A"), of("A")), ("without", of("C"), "a")):
            self.refused(BadTree, [A, B], tree)
            self.second_refused([A, B], tree)

    def test_each_name_of_a_deed_and_no_other(self):
        for name in "abcdefgh":
            self.accepted([A], ("without", of("A"), name))
        for name in ("i", "A", "p", "", "ab", (), ("a",), of("A")):
            for tree in (("without", of("A"), name), ("also", of("A"), name, "b"), ("also", of("A"), "b", name),
                         ("renamed", of("A"), name, "b"), ("renamed", of("A"), "b", name)):
                self.refused(BadTree, [A], tree)
                self.second_refused([A], tree)

    def test_as_many_arms_as_they_have(self):
        good = (of("A"), ("with", of("A"), of("A")), ("without", of("A"), "a"), ("also", of("A"), "a", "b"),
                ("renamed", of("A"), "a", "b"), ("over", of("A"), "A"))
        for tree in good:
            for wrong in (tree[:1], tree[:-1], tree + ("a",), tree + ("A",), tree + (of("A"),), tree + ((),)):
                self.refused(BadTree, [A], wrong)
                self.second_refused([A], wrong)

    def test_no_other_words(self):
        for tree in ((), ("",), ("A",), ("parts", "A"), ("Part", "A"), ("part A",), ("plus", of("A"), of("A")),
                     (of("A"),), (of("A"), of("A")), (("part",), "A"), ("with", of("A"), ("no", "A"))):
            self.refused(BadTree, [A], tree)
            self.second_refused([A], tree)

    def test_each_arm_that_is_a_tree_is_one(self):
        for wrong in ("A", "", (), ("A",), "part", ("part",), ("part", "A", "A")):
            for tree in (("with", wrong, of("A")), ("with", of("A"), wrong), ("without", wrong, "a"),
                         ("also", wrong, "a", "b"), ("renamed", wrong, "a", "b"), ("over", wrong, "A")):
                self.refused(BadTree, [A], tree)
                self.second_refused([A], tree)

    def test_forty_trees(self):
        self.accepted([A], bush(20))
        self.accepted([A], ("without", bush(20), "h"))
        self.refused(BadTree, [A], bush(21))
        self.refused(BadTree, [A], ("over", ("without", bush(20), "h"), "A"))
        self.refused(BadTree, [A], bush(300))
        self.second_refused([A], bush(21))

    def test_within_nine_others(self):
        self.accepted([A], chain(9))
        self.refused(BadTree, [A], chain(10))
        self.refused(BadTree, [A], chain(60))
        self.refused(BadTree, [A], ("with", chain(9), of("A")))
        self.refused(BadTree, [A], ("with", of("A"), chain(9)))
        self.accepted([A], ("with", of("A"), chain(8)))
        self.second_refused([A], chain(10))

    def test_each_word_within_each_other(self):
        for inner in (of("A"), ("with", of("A"), of("B")), ("without", of("A"), "a"), ("also", of("A"), "a", "b"),
                      ("renamed", of("A"), "a", "b"), ("over", of("A"), "B")):
            for outer in (("with", inner, inner), ("without", inner, "a"), ("also", inner, "a", "b"),
                          ("renamed", inner, "a", "b"), ("over", inner, "B")):
                self.accepted([B, A], outer)

    def test_either_tree_is_enough(self):
        # Which of two bad trees is refused can't be seen: both refusals are BadTree, without a value.
        self.second_refused([A], NO_TREE)
        self.refused(BadTree, [A], NO_TREE)
