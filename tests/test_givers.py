"""[15]: the fewest parts by which a tree is whole."""

import itertools
import random
import unittest

from partdeeds.givers import givers
from tests.chance import cases
from tests.model import facts_of, wanting_of
from tests.rights import changed, right_shelf
from tests.samples import EMPTY, ONE, TRUE, ask, call, deed, of, part, thens, with_all

NEEDS = "abcdef"


def asking(name, *others):
    """A part whose deed h calls these others."""
    return part(name, [deed("h", thens([call(other) for other in others]))], [ask(other) for other in others])


def giving(name, *deeds):
    return part(name, [deed(one) for one in deeds])


class Givers(unittest.TestCase):
    def test_nothing_is_asked_for_where_the_tree_is_whole(self):
        for shelf in ([giving("A", "a")], [giving("A", "a"), giving("B", "a"), giving("C", "b")]):
            self.assertEqual(givers(shelf, of("A")), [])
        self.assertEqual(givers([part("A")], of("A")), [])

    def test_one_part(self):
        shelf = [asking("A", "a"), giving("B", "b"), giving("C", "a")]
        self.assertEqual(givers(shelf, of("A")), ["C"])

    def test_two_parts_rising(self):
        shelf = [giving("F", "a"), asking("C", "a", "b"), giving("B", "b")]
        self.assertEqual(givers(shelf, of("C")), ["B", "F"])

    def test_a_part_that_itself_asks_for_others(self):
        shelf = [asking("A", "a"), part("B", [deed("a", call("b"))], [ask("b")]),
                 part("C", [deed("b", call("c"))], [ask("c")]), giving("D", "c")]
        self.assertEqual(givers(shelf, of("A")), ["B", "C", "D"])
        self.assertEqual(givers(shelf[:3], of("A")), None)

    def test_the_fewest(self):
        shelf = [asking("A", "a", "b", "c"), giving("B", "a"), giving("C", "b"), giving("D", "c"),
                 giving("E", "b", "c"), giving("F", "a", "b", "c")]
        self.assertEqual(givers(shelf, of("A")), ["F"])
        self.assertEqual(givers(shelf[:5], of("A")), ["B", "E"])
        self.assertEqual(givers(shelf[:4], of("A")), ["B", "C", "D"])
        self.assertIsNone(givers(shelf[:3], of("A")))

    def test_of_several_the_first_as_lists_ascend(self):
        shelf = [asking("C", "a", "b"), giving("F", "a"), giving("B", "b"), giving("A", "b"), giving("D", "a")]
        self.assertEqual(givers(shelf, of("C")), ["A", "D"])
        self.assertEqual(givers(shelf[:3], of("C")), ["B", "F"])
        shelf = [asking("F", "a"), giving("E", "a"), giving("D", "a"), giving("B", "b")]
        self.assertEqual(givers(shelf, of("F")), ["D"])

    def test_the_first_of_the_list_counts_ahead_of_the_last(self):
        shelf = [asking("F", "a", "b"), giving("A", "a"), giving("E", "b"), giving("B", "b", "c", "d"),
                 part("C", [deed("a", ONE)]), giving("D", "c")]
        self.assertEqual(givers(shelf, of("F")), ["A", "B"])
        self.assertEqual(givers([row for row in shelf if row[0] != "B"], of("F")), ["A", "E"])

    def test_all_the_others(self):
        shelf = [asking("A", *NEEDS[:5])] + [giving(name, one) for name, one in zip("BCDEF", NEEDS)]
        self.assertEqual(givers(shelf, of("A")), list("BCDEF"))

    def test_all_six(self):
        # What the tree's part gives itself was left out: so it is put with it again.
        first = part("A", [deed("g"), deed("h", thens([call(one) for one in "abcdeg"]))], [ask(one) for one in "abcde"])
        shelf = [first] + [giving(name, one) for name, one in zip("BCDEF", NEEDS)]
        self.assertEqual(givers(shelf, ("without", of("A"), "g")), list("ABCDEF"))

    def test_a_part_of_the_tree_itself(self):
        shelf = [part("A", [deed("a", call("b")), deed("b")])]
        self.assertEqual(givers(shelf, ("without", of("A"), "b")), ["A"])
        self.assertEqual(givers(shelf, ("without", of("A"), "a")), [])
        self.assertIsNone(givers(shelf, ("renamed", ("without", of("A"), "b"), "b", "c")))

    def test_clashes_stay(self):
        shelf = [giving("A", "a"), part("B", [deed("a", ONE)]), giving("C", "a")]
        self.assertIsNone(givers(shelf, ("with", of("A"), of("B"))))

    def test_givers_that_clash_with_the_tree_or_one_another(self):
        shelf = [asking("A", "a"), giving("B", "a", "h"), giving("C", "a")]
        self.assertEqual(givers(shelf, of("A")), ["C"])
        self.assertIsNone(givers(shelf[:2], of("A")))
        shelf = [asking("A", "a", "b"), giving("B", "a", "c"), giving("C", "b", "c")]
        self.assertIsNone(givers(shelf, of("A")))
        self.assertEqual(givers(shelf + [giving("D", "b")], of("A")), ["B", "D"])

    def test_unlike_kinds(self):
        shelf = [asking("A", "a"), part("B", [deed("a", ONE, "list")]), part("C", [deed("a", EMPTY, "number", "list")])]
        self.assertIsNone(givers(shelf, of("A")))
        self.assertEqual(givers(shelf + [giving("D", "a")], of("A")), ["D"])

    def test_cells_of_two_kinds(self):
        shelf = [part("A", [deed("h", call("a"))], [ask("a")], [("p", "list")]),
                 part("B", [deed("a")], [], [("p", "truth")]), part("C", [deed("a")], [], [("p", "list")])]
        self.assertIsNone(givers(shelf[:2], of("A")))
        self.assertEqual(givers(shelf, of("A")), ["C"])
        self.assertIsNone(givers(shelf, ("with", of("A"), of("B"))))

    def test_parts_need_not_be_right(self):
        shelf = [asking("A", "a"), part("B", [deed("a", TRUE)])]
        self.assertEqual(givers(shelf, of("A")), ["B"])

    def test_a_tree_of_as_many_as_may_be(self):
        tree = of("A")
        for _ in range(9):
            tree = ("without", tree, "g")
        self.assertEqual(givers([asking("A", "a"), giving("B", "a")], tree), ["B"])

    def test_what_is_told_may_be_changed(self):
        shelf = [asking("A", "a"), giving("B", "a")]
        for tree, names in ((of("A"), ["B"]), (of("B"), [])):
            told = givers(shelf, tree)
            told.append("C")
            self.assertEqual(givers(shelf, tree), names)


class BySearch(unittest.TestCase):
    def by_search(self, shelf, tree):
        names = sorted(row[0] for row in shelf)
        for many in range(len(names) + 1):
            for group in itertools.combinations(names, many):
                if wanting_of(facts_of(shelf, with_all(tree, *[of(name) for name in group]))) == ([], [], [], []):
                    return list(group)
        return None

    def test_against_all_groups_put_with_the_tree(self):
        chance, counts = random.Random(40), {}
        for _ in range(600):
            shelf = right_shelf(chance, 4)
            tree = changed(chance, of(chance.choice(shelf)[0]))
            told = givers(shelf, tree)
            self.assertEqual(told, self.by_search(shelf, tree))
            many = None if told is None else len(told)
            counts[many] = counts.get(many, 0) + 1
        for many in (None, 0, 1, 2, 3):
            self.assertGreater(counts.get(many, 0), 5, counts)

    def test_against_all_groups_where_little_fits(self):
        for shelf, tree, _, _ in cases(100, 11):
            self.assertEqual(givers(shelf, tree), self.by_search(shelf, tree))
