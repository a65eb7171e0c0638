"""What [8] tells of clashes, lacks, what is unfit, and cells."""

import unittest

from partdeeds.trees import wanting
from tests.samples import ONE, TRUE, ask, call, deed, of, part, with_all

WHOLE = ([], [], [], [])


class Wanting(unittest.TestCase):
    def test_a_whole_tree(self):
        shelf = [part("A", [deed("a", call("b"))], [ask("b")], [("p", "list")]),
                 part("B", [deed("b")], [], [("p", "list"), ("q", "truth")])]
        self.assertEqual(wanting(shelf, ("with", of("A"), of("B"))), WHOLE)
        self.assertEqual(wanting(shelf, of("B")), WHOLE)

    def test_a_tuple_of_four_lists(self):
        told = wanting([part("A")], of("A"))
        self.assertEqual(told, WHOLE)
        self.assertIsInstance(told, tuple)
        for row in told:
            self.assertIsInstance(row, list)

    def test_all_four(self):
        shelf = [part("A", [deed("a", ("plus", call("b"), call("c")))], [ask("b"), ask("c")], [("p", "list")]),
                 part("B", [deed("a"), deed("c", TRUE, "number", "truth")], [], [("p", "truth")])]
        self.assertEqual(wanting(shelf, ("with", of("B"), of("A"))), (["a"], ["b"], [("a", "c")], ["p"]))


class Clashes(unittest.TestCase):
    SHELF = [part("A", [deed("a"), deed("d"), deed("g")]), part("B", [deed("d", ONE), deed("g")]),
             part("C", [deed("g", TRUE, "list", "truth")])]

    def told(self, tree):
        clashes, lacks, unfit, cells = wanting(self.SHELF, tree)
        self.assertEqual((lacks, unfit, cells), ([], [], []))
        return clashes

    def test_deeds_of_several_forms_rise(self):
        self.assertEqual(self.told(with_all(of("C"), of("B"), of("A"))), ["d", "g"])
        self.assertEqual(self.told(with_all(of("C"), of("A"))), ["g"])

    def test_no_form_clashes_with_itself(self):
        self.assertEqual(self.told(with_all(of("A"), of("A"))), [])

    def test_left_out_or_put_over_they_clash_no_more(self):
        both = with_all(of("A"), of("B"))
        self.assertEqual(self.told(("without", both, "d")), ["g"])
        self.assertEqual(self.told(("over", both, "B")), [])
        self.assertEqual(self.told(("over", both, "C")), ["d"])

    def test_renamed_or_named_a_second_time_they_clash(self):
        self.assertEqual(self.told(("renamed", of("A"), "a", "d")), ["d"])
        self.assertEqual(self.told(("also", of("A"), "a", "d")), ["d"])
        self.assertEqual(self.told(("also", of("A"), "a", "h")), [])
        self.assertEqual(self.told(("renamed", of("A"), "h", "a")), [])


class Lacks(unittest.TestCase):
    SHELF = [part("A", [deed("a", ("plus", call("h"), call("c")))], [ask("c"), ask("d"), ask("h")]),
             part("B", [deed("b", call("c")), deed("c", call("b"))]),
             part("C", [deed("e", call("g"))])]

    def told(self, tree):
        clashes, lacks, unfit, cells = wanting(self.SHELF, tree)
        self.assertEqual((clashes, unfit, cells), ([], [], []))
        return lacks

    def test_those_needed_and_not_there_rise_each_once(self):
        self.assertEqual(self.told(of("A")), ["c", "h"])
        self.assertEqual(self.told(("without", with_all(of("A"), of("B")), "c")), ["c", "h"])

    def test_those_there_do_not_lack(self):
        self.assertEqual(self.told(with_all(of("A"), of("B"))), ["h"])
        self.assertEqual(self.told(of("B")), [])

    def test_an_ask_that_no_body_calls_does_not_lack(self):
        self.assertNotIn("d", self.told(of("A")))

    def test_what_is_neither_given_nor_asked_for_does_not_lack(self):
        self.assertEqual(self.told(of("C")), [])

    def test_left_out_it_lacks_though_its_part_gave_it(self):
        self.assertEqual(self.told(("without", of("B"), "b")), ["b"])
        self.assertEqual(self.told(("without", ("without", of("B"), "b"), "c")), [])

    def test_renamed_the_new_one_lacks(self):
        self.assertEqual(self.told(("renamed", of("A"), "h", "g")), ["c", "g"])
        self.assertEqual(self.told(("renamed", of("A"), "h", "a")), ["c"])
        self.assertEqual(self.told(("renamed", of("B"), "c", "h")), [])

    def test_a_second_name_gives_what_lacks(self):
        self.assertEqual(self.told(("also", ("also", of("A"), "a", "c"), "a", "h")), [])

    def test_put_over_what_needed_it_nothing_lacks(self):
        shelf = [part("A", [deed("a", call("b"))], [ask("b")]), part("B", [deed("a")])]
        self.assertEqual(wanting(shelf, of("A")), ([], ["b"], [], []))
        self.assertEqual(wanting(shelf, ("over", of("A"), "B")), WHOLE)


class Unfit(unittest.TestCase):
    SHELF = [part("A", [deed("a", call("b")), deed("d", call("b")), deed("e")], [ask("b")]),
             part("B", [deed("b", TRUE, "number", "truth")]),
             part("C", [deed("b", ONE, "truth", "number")]),
             part("D", [deed("b")]),
             part("E", [deed("a", call("b"))], [ask("b", "number", "truth")])]

    def test_with_other_kinds(self):
        for name in "BC":
            told = wanting(self.SHELF, with_all(of("A"), of(name)))
            self.assertEqual(told, ([], [], [("a", "b"), ("d", "b")], []))

    def test_with_the_same_kinds(self):
        self.assertEqual(wanting(self.SHELF, with_all(of("A"), of("D"))), WHOLE)

    def test_what_is_not_there_lacks_but_is_not_unfit(self):
        self.assertEqual(wanting(self.SHELF, of("A")), ([], ["b"], [], []))

    def test_than_some_form_of_the_other(self):
        told = wanting(self.SHELF, with_all(of("A"), of("D"), of("C")))
        self.assertEqual(told, (["b"], [], [("a", "b"), ("d", "b")], []))

    def test_by_some_form_of_the_deed(self):
        told = wanting(self.SHELF, with_all(of("A"), of("E"), of("D")))
        self.assertEqual(told, (["a"], [], [("a", "b")], []))

    def test_each_once(self):
        told = wanting(self.SHELF, with_all(of("A"), of("B"), of("C"), of("D"), of("E")))
        self.assertEqual(told, (["a", "b"], [], [("a", "b"), ("d", "b")], []))

    def test_under_a_second_name(self):
        told = wanting(self.SHELF, ("also", with_all(of("A"), of("B")), "a", "h"))
        self.assertEqual(told, ([], [], [("a", "b"), ("d", "b"), ("h", "b")], []))

    def test_renamed(self):
        told = wanting(self.SHELF, ("renamed", with_all(of("A"), of("B")), "b", "c"))
        self.assertEqual(told, ([], [], [("a", "c"), ("d", "c")], []))
        told = wanting(self.SHELF, ("renamed", with_all(of("A"), of("B")), "a", "h"))
        self.assertEqual(told, ([], [], [("d", "b"), ("h", "b")], []))

    def test_itself(self):
        shelf = [part("A", [deed("a", call("a"))]), part("B", [deed("a", TRUE, "list", "truth")])]
        self.assertEqual(wanting(shelf, of("A")), WHOLE)
        self.assertEqual(wanting(shelf, ("with", of("A"), of("B"))), (["a"], [], [("a", "a")], []))

    def test_one_form_that_needs_one_deed_with_two_kinds(self):
        body = ("plus", call("b"), call("c", TRUE))
        shelf = [part("A", [deed("a", body)], [ask("b"), ask("c", "truth", "number")]), part("B", [deed("b")])]
        tree = ("renamed", with_all(of("A"), of("B")), "c", "b")
        self.assertEqual(wanting(shelf, tree), ([], [], [("a", "b")], []))

    def test_a_part_that_is_given_what_it_gave_with_other_kinds(self):
        shelf = [part("A", [deed("a", call("b")), deed("b")]), part("B", [deed("b", TRUE, "number", "truth")])]
        self.assertEqual(wanting(shelf, ("over", of("A"), "B")), ([], [], [("a", "b")], []))


class Cells(unittest.TestCase):
    SHELF = [part("A", [], [], [("p", "number"), ("q", "list"), ("s", "truth")]),
             part("B", [deed("a")], [], [("p", "truth"), ("q", "list"), ("r", "list")]),
             part("C", [], [], [("p", "list"), ("s", "number")])]

    def told(self, tree):
        clashes, lacks, unfit, cells = wanting(self.SHELF, tree)
        self.assertEqual((clashes, lacks, unfit), ([], [], []))
        return cells

    def test_of_one_kind(self):
        self.assertEqual(self.told(of("A")), [])
        self.assertEqual(self.told(("with", of("A"), of("A"))), [])

    def test_of_two_kinds(self):
        self.assertEqual(self.told(("with", of("A"), of("B"))), ["p"])
        self.assertEqual(self.told(("with", of("C"), of("A"))), ["p", "s"])

    def test_of_three_kinds(self):
        self.assertEqual(self.told(with_all(of("A"), of("B"), of("C"))), ["p", "s"])

    def test_put_over_they_come_too(self):
        self.assertEqual(self.told(("over", of("A"), "B")), ["p"])

    def test_they_stay_when_deeds_are_left_out_renamed_or_named_again(self):
        both = ("with", of("A"), of("B"))
        for tree in (("without", both, "a"), ("renamed", both, "a", "b"), ("also", both, "a", "b")):
            self.assertEqual(self.told(tree), ["p"])
        self.assertEqual(self.told(("with", ("without", of("B"), "a"), of("A"))), ["p"])


class Untouched(unittest.TestCase):
    def test_what_is_told_may_be_changed(self):
        told = wanting(Clashes.SHELF, with_all(of("A"), of("B")))
        told[0].clear()
        for row in told:
            row.append("more")
        self.assertEqual(wanting(Clashes.SHELF, with_all(of("A"), of("B"))), (["d", "g"], [], [], []))
        self.assertEqual(wanting(Clashes.SHELF, of("A")), WHOLE)

    def test_the_shelf_stays_and_may_be_changed_later(self):
        shelf = list(Unfit.SHELF)
        tree = ("renamed", with_all(of("A"), of("B")), "b", "c")
        told = wanting(shelf, tree)
        self.assertEqual(shelf, Unfit.SHELF)
        shelf.clear()
        self.assertEqual(told, ([], [], [("a", "c"), ("d", "c")], []))
