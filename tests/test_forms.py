"""[7] and the forms of [8]."""

import unittest

from partdeeds.trees import forms
from tests.samples import ARGUMENT, EMPTY, ONE, TRUE, ask, bush, call, deed, of, part, with_all

NEED_A = ("a", "number", "number")
NEED_B = ("b", "number", "number")
NEED_C = ("c", "number", "number")


def form(origin, body=ARGUMENT, needs=(), takes="number", tells="number"):
    return ((origin[0], origin[1]), takes, tells, body, tuple(needs))


A = part("A", [deed("a", call("b")), deed("c", ONE)], [ask("b")], [("p", "number")])
B = part("B", [deed("b", ("number", 2))], [], [("q", "list")])
C = part("C", [deed("a", ("number", 3)), deed("b", call("a"))], [], [("p", "truth")])
D = part("D", [deed("b", EMPTY, "truth", "list")])
SHELF = [A, B, C, D]

A_A = form("Aa", call("b"), [NEED_B])
A_C = form("Ac", ONE)
B_B = form("Bb", ("number", 2))
C_A = form("Ca", ("number", 3))
C_B = form("Cb", call("a"), [NEED_A])
D_B = form("Db", EMPTY, (), "truth", "list")


class Parts(unittest.TestCase):
    def test_a_part_has_its_deeds_each_with_one_form(self):
        self.assertEqual(forms(SHELF, of("A")), [("a", [A_A]), ("c", [A_C])])
        self.assertEqual(forms(SHELF, of("C")), [("a", [C_A]), ("b", [C_B])])
        self.assertEqual(forms(SHELF, of("D")), [("b", [D_B])])

    def test_a_part_without_deeds(self):
        self.assertEqual(forms([part("E", [], [ask("a")], [("p", "list")])], of("E")), [])

    def test_what_is_told_is_of_lists_and_tuples(self):
        told = forms(SHELF, of("A"))
        self.assertIsInstance(told, list)
        for row in told:
            self.assertIsInstance(row, tuple)
            self.assertIsInstance(row[1], list)
            for one in row[1]:
                self.assertIsInstance(one, tuple)
                self.assertIsInstance(one[0], tuple)
                self.assertIsInstance(one[4], tuple)
                self.assertEqual(len(one), 5)

    def needs(self, body, deeds=(), asks=()):
        told = forms([part("A", [deed("a", body)] + list(deeds), asks)], of("A"))
        return told[0][1][0][4]

    def test_needs_are_as_the_part_asks_for_them(self):
        self.assertEqual(self.needs(call("b"), [], [ask("b", "list", "truth")]), (("b", "list", "truth"),))

    def test_needs_are_as_the_part_gives_them(self):
        self.assertEqual(self.needs(call("b"), [deed("b", TRUE, "list", "truth")]), (("b", "list", "truth"),))
        self.assertEqual(self.needs(call("a")), (NEED_A,))

    def test_needs_rise_and_are_told_once(self):
        body = ("if", call("d"), ("set", "p", call("b", call("c"))), ("then", call("b"), call("c")))
        self.assertEqual(self.needs(body, [deed("c")], [ask("b"), ask("d", "number", "truth")]),
                         (NEED_B, NEED_C, ("d", "number", "truth")))

    def test_what_no_body_calls_is_not_needed(self):
        self.assertEqual(self.needs(ARGUMENT, [deed("b")], [ask("c")]), ())

    def test_what_the_part_neither_gives_nor_asks_for_is_not_needed(self):
        self.assertEqual(self.needs(call("h")), ())
        self.assertEqual(self.needs(("plus", call("h"), call("b")), [], [ask("b")]), (NEED_B,))

    def test_calls_at_any_place(self):
        for body in (("not", call("b")), ("plus", ONE, call("b")), ("if", TRUE, ONE, call("b")),
                     ("set", "p", call("b")), ("then", call("b"), ONE), call("a", call("b"))):
            self.assertIn(NEED_B, self.needs(body, [], [ask("b")]))


class With(unittest.TestCase):
    def test_forms_of_both(self):
        self.assertEqual(forms(SHELF, ("with", of("A"), of("B"))), [("a", [A_A]), ("b", [B_B]), ("c", [A_C])])
        self.assertEqual(forms(SHELF, ("with", of("A"), of("C"))),
                         [("a", [A_A, C_A]), ("b", [C_B]), ("c", [A_C])])

    def test_each_once(self):
        self.assertEqual(forms(SHELF, ("with", of("A"), of("A"))), forms(SHELF, of("A")))
        self.assertEqual(forms(SHELF, bush(20)), forms(SHELF, of("A")))

    def test_a_deed_of_several_forms(self):
        self.assertEqual(forms(SHELF, with_all(of("D"), of("C"), of("B")))[1], ("b", [B_B, C_B, D_B]))

    def test_six_parts(self):
        six = [part(name, [deed("a", ("number", at))]) for at, name in enumerate("ABCDEF")]
        told = forms(six[::-1], with_all(*[of(name) for name in "FBDACE"]))
        self.assertEqual(told, [("a", [form(name + "a", ("number", at)) for at, name in enumerate("ABCDEF")])])

    def test_the_same_body_of_two_parts_is_two_forms(self):
        shelf = [part("A", [deed("a")]), part("B", [deed("a")])]
        self.assertEqual(forms(shelf, ("with", of("B"), of("A"))), [("a", [form("Aa"), form("Ba")])])

    def test_the_same_body_of_two_deeds_is_two_forms(self):
        shelf = [part("A", [deed("a"), deed("b")])]
        self.assertEqual(forms(shelf, ("also", of("A"), "b", "a")),
                         [("a", [form("Aa"), form("Ab")]), ("b", [form("Ab")])])


class Without(unittest.TestCase):
    def test_the_deed_is_not_there(self):
        self.assertEqual(forms(SHELF, ("without", of("A"), "a")), [("c", [A_C])])
        self.assertEqual(forms(SHELF, ("without", ("without", of("A"), "c"), "a")), [])

    def test_all_of_its_forms_are_left_out(self):
        self.assertEqual(forms(SHELF, ("without", with_all(of("B"), of("C"), of("D")), "b")), [("a", [C_A])])

    def test_what_calls_it_stays(self):
        self.assertEqual(forms(SHELF, ("without", ("with", of("A"), of("B")), "b")), forms(SHELF, of("A")))

    def test_a_deed_that_is_not_there(self):
        for name in "bdefgh":
            self.assertEqual(forms(SHELF, ("without", of("A"), name)), forms(SHELF, of("A")))

    def test_what_comes_later_is_not_left_out(self):
        self.assertEqual(forms(SHELF, ("with", ("without", of("A"), "a"), of("C"))),
                         [("a", [C_A]), ("b", [C_B]), ("c", [A_C])])


class Also(unittest.TestCase):
    def test_a_second_name(self):
        self.assertEqual(forms(SHELF, ("also", of("A"), "a", "h")), [("a", [A_A]), ("c", [A_C]), ("h", [A_A])])

    def test_beside_its_own(self):
        self.assertEqual(forms(SHELF, ("also", of("A"), "c", "a")), [("a", [A_A, A_C]), ("c", [A_C])])

    def test_all_of_its_forms(self):
        self.assertEqual(forms(SHELF, ("also", ("with", of("B"), of("D")), "b", "a")),
                         [("a", [B_B, D_B]), ("b", [B_B, D_B])])

    def test_each_form_once(self):
        once = ("also", of("A"), "a", "h")
        self.assertEqual(forms(SHELF, ("also", once, "h", "a")), forms(SHELF, once))
        self.assertEqual(forms(SHELF, ("also", once, "a", "h")), forms(SHELF, once))

    def test_what_calls_it_calls_it_still(self):
        self.assertEqual(forms(SHELF, ("also", ("with", of("A"), of("B")), "b", "d")),
                         [("a", [A_A]), ("b", [B_B]), ("c", [A_C]), ("d", [B_B])])

    def test_a_deed_that_calls_itself_calls_its_first_name(self):
        shelf = [part("A", [deed("a", call("a"))])]
        own = form("Aa", call("a"), [NEED_A])
        self.assertEqual(forms(shelf, ("also", of("A"), "a", "b")), [("a", [own]), ("b", [own])])

    def test_of_itself(self):
        self.assertEqual(forms(SHELF, ("also", of("A"), "a", "a")), forms(SHELF, of("A")))

    def test_a_deed_that_is_not_there(self):
        for new in "abh":
            self.assertEqual(forms(SHELF, ("also", of("A"), "d", new)), forms(SHELF, of("A")))


class Renamed(unittest.TestCase):
    def test_to_a_name_that_nobody_has(self):
        self.assertEqual(forms(SHELF, ("renamed", of("A"), "a", "h")), [("c", [A_C]), ("h", [A_A])])

    def test_the_origin_stays(self):
        twice = ("renamed", ("renamed", of("A"), "c", "d"), "d", "e")
        self.assertEqual(forms(SHELF, twice), [("a", [A_A]), ("e", [A_C])])

    def test_in_all_bodies_and_needs(self):
        self.assertEqual(forms(SHELF, ("renamed", with_all(of("A"), of("B")), "b", "h")),
                         [("a", [form("Aa", call("h"), [("h", "number", "number")])]), ("c", [A_C]), ("h", [B_B])])
        self.assertEqual(forms(SHELF, ("renamed", of("C"), "a", "d")),
                         [("b", [form("Cb", call("d"), [("d", "number", "number")])]), ("d", [C_A])])

    def test_a_deed_that_is_only_called(self):
        self.assertEqual(forms(SHELF, ("renamed", of("A"), "b", "d")),
                         [("a", [form("Aa", call("d"), [("d", "number", "number")])]), ("c", [A_C])])

    def test_a_deed_that_is_called_but_not_needed(self):
        shelf = [part("A", [deed("a", call("h"))])]
        self.assertEqual(forms(shelf, ("renamed", of("A"), "h", "b")), [("a", [form("Aa", call("b"))])])

    def test_a_deed_that_calls_itself(self):
        shelf = [part("A", [deed("a", call("a"))])]
        self.assertEqual(forms(shelf, ("renamed", of("A"), "a", "b")), [("b", [form("Aa", call("b"), [NEED_B])])])

    def test_calls_at_any_place(self):
        def body(name):
            return ("if", ("same", call(name), ONE), ("set", "p", call("c", call(name))),
                    ("then", call("a", call(name)), ("plus", ("cell", "p"), call(name))))

        shelf = [part("A", [deed("a", body("b"))], [ask("b"), ask("c")], [("p", "number")])]
        self.assertEqual(forms(shelf, ("renamed", of("A"), "b", "d")),
                         [("a", [form("Aa", body("d"), [NEED_A, NEED_C, ("d", "number", "number")])])])

    def test_beside_the_forms_that_new_has(self):
        self.assertEqual(forms(SHELF, ("renamed", of("A"), "c", "a")), [("a", [A_A, A_C])])
        self.assertEqual(forms(SHELF, ("renamed", of("C"), "a", "b")),
                         [("b", [C_A, form("Cb", call("b"), [NEED_B])])])

    def test_the_forms_of_new_are_renamed_too(self):
        shelf = [part("A", [deed("a"), deed("b", call("a"))])]
        self.assertEqual(forms(shelf, ("renamed", of("A"), "a", "b")),
                         [("b", [form("Aa"), form("Ab", call("b"), [NEED_B])])])

    def test_to_one_that_a_body_calls_too(self):
        shelf = [part("A", [deed("a", ("plus", call("b"), call("c")))], [ask("b"), ask("c")])]
        self.assertEqual(forms(shelf, ("renamed", of("A"), "c", "b")),
                         [("a", [form("Aa", ("plus", call("b"), call("b")), [NEED_B])])])

    def test_to_one_that_a_body_calls_with_other_kinds(self):
        shelf = [part("A", [deed("a", ("plus", call("b"), call("c", TRUE)))], [ask("b"), ask("c", "truth", "list")])]
        body = ("plus", call("b"), call("b", TRUE))
        self.assertEqual(forms(shelf, ("renamed", of("A"), "c", "b")),
                         [("a", [form("Aa", body, [NEED_B, ("b", "truth", "list")])])])
        body = ("plus", call("c"), call("c", TRUE))
        self.assertEqual(forms(shelf, ("renamed", of("A"), "b", "c")),
                         [("a", [form("Aa", body, [NEED_C, ("c", "truth", "list")])])])

    def test_needs_rise_again(self):
        shelf = [part("A", [deed("a", ("plus", call("b"), call("c")))], [ask("b"), ask("c")])]
        self.assertEqual(forms(shelf, ("renamed", of("A"), "b", "h"))[0][1][0][4], (NEED_C, ("h", "number", "number")))

    def test_to_itself(self):
        for name in "abch":
            self.assertEqual(forms(SHELF, ("renamed", of("A"), name, name)), forms(SHELF, of("A")))

    def test_a_deed_that_nobody_has_or_calls(self):
        for new in "abch":
            self.assertEqual(forms(SHELF, ("renamed", of("A"), "d", new)), forms(SHELF, of("A")))

    def test_there_and_back(self):
        self.assertEqual(forms(SHELF, ("renamed", ("renamed", of("A"), "b", "h"), "h", "b")), forms(SHELF, of("A")))

    def test_two_deeds_change_their_names(self):
        tree = ("renamed", ("renamed", ("renamed", of("C"), "a", "h"), "b", "a"), "h", "b")
        self.assertEqual(forms(SHELF, tree), [("a", [form("Cb", call("b"), [NEED_B])]), ("b", [C_A])])

    def test_what_is_put_with_it_later_keeps_its_names(self):
        self.assertEqual(forms(SHELF, ("with", ("renamed", of("B"), "b", "d"), of("A"))),
                         [("a", [A_A]), ("c", [A_C]), ("d", [B_B])])
        self.assertEqual(forms(SHELF, ("over", ("renamed", of("B"), "b", "d"), "A")),
                         [("a", [A_A]), ("c", [A_C]), ("d", [B_B])])

    def test_forms_that_become_the_same_are_told_once(self):
        tree = ("with", of("A"), ("renamed", of("A"), "b", "h"))
        self.assertEqual(len(forms(SHELF, tree)[0][1]), 2)
        self.assertEqual(forms(SHELF, ("renamed", tree, "h", "b")), forms(SHELF, of("A")))

    def test_a_second_name_renamed_to_the_first(self):
        self.assertEqual(forms(SHELF, ("renamed", ("also", of("A"), "c", "h"), "h", "c")), forms(SHELF, of("A")))


class Over(unittest.TestCase):
    def test_takes_the_place_of_all_forms(self):
        self.assertEqual(forms(SHELF, ("over", with_all(of("A"), of("B"), of("D")), "C")),
                         [("a", [C_A]), ("b", [C_B]), ("c", [A_C])])

    def test_deeds_that_were_not_there_come_too(self):
        self.assertEqual(forms(SHELF, ("over", of("B"), "A")), [("a", [A_A]), ("b", [B_B]), ("c", [A_C])])

    def test_over_itself(self):
        self.assertEqual(forms(SHELF, ("over", of("A"), "A")), forms(SHELF, of("A")))
        self.assertEqual(forms(SHELF, ("over", ("renamed", of("A"), "a", "c"), "A")), forms(SHELF, of("A")))

    def test_a_part_without_deeds(self):
        shelf = SHELF + [part("E", [], [ask("a")])]
        self.assertEqual(forms(shelf, ("over", of("A"), "E")), forms(shelf, of("A")))
        self.assertEqual(forms(shelf, ("over", of("E"), "A")), forms(shelf, of("A")))


class Order(unittest.TestCase):
    def test_deeds_rise(self):
        shelf = [part("A", [deed("h")]), part("B", [deed("a"), deed("g")]), part("C", [deed("b")])]
        told = forms(shelf, with_all(of("A"), of("B"), of("C")))
        self.assertEqual([row[0] for row in told], ["a", "b", "g", "h"])

    def test_by_origins_then_by_texts(self):
        shelf = [part("A", [deed("b", ("number", 9)), deed("c", ONE)]), part("B", [deed("a", EMPTY)])]
        tree = with_all(of("B"), of("A"))
        tree = ("renamed", ("renamed", tree, "c", "d"), "b", "d")
        self.assertEqual(forms(shelf, ("renamed", tree, "a", "d")),
                         [("d", [form("Ab", ("number", 9)), form("Ac", ONE), form("Ba", EMPTY)])])

    def test_forms_of_one_origin_by_their_texts(self):
        for one, other in (("b", "c"), ("c", "b"), ("a", "h"), ("h", "a")):
            shelf = [part("A", [deed("d", ("plus", call("e", ("number", -3)), call("f")))], [ask("e"), ask("f")])]
            tree = ("with", ("renamed", of("A"), "e", one), ("renamed", of("A"), "e", other))
            told = [row[3][1][1] for row in forms(shelf, tree)[0][1]]
            self.assertEqual(told, sorted([one, other]))

    def test_the_first_call_that_differs_decides(self):
        shelf = [part("A", [deed("a", ("plus", call("b"), call("c", call("b"))))], [ask("b"), ask("c")])]
        tree = with_all(("renamed", of("A"), "b", "d"), ("renamed", of("A"), "c", "a"), of("A"))
        told = [row[3] for row in forms(shelf, tree)[0][1]]
        self.assertEqual(told, [("plus", call("b"), call("a", call("b"))), ("plus", call("b"), call("c", call("b"))),
                                ("plus", call("d"), call("c", call("d")))])


class Untouched(unittest.TestCase):
    def test_what_is_told_may_be_changed(self):
        told = forms(SHELF, ("with", of("A"), of("B")))
        kept = [(row[0], list(row[1])) for row in told]
        told[0][1].append("more")
        told[1][1].clear()
        told.pop()
        self.assertEqual(forms(SHELF, ("with", of("A"), of("B"))), kept)

    def test_lists_told_of_one_form_twice_are_not_the_same_list(self):
        told = forms(SHELF, ("also", of("A"), "a", "h"))
        told[0][1].clear()
        self.assertEqual(told[2][1], [A_A])

    def test_the_shelf_stays_and_may_be_changed_later(self):
        shelf = [A, B, C, D]
        tree = ("over", ("renamed", ("also", with_all(of("A"), of("B")), "a", "h"), "b", "g"), "C")
        told = forms(shelf, tree)
        self.assertEqual(shelf, [A, B, C, D])
        kept = [(row[0], list(row[1])) for row in told]
        shelf.reverse()
        self.assertEqual(forms(shelf, tree), kept)
        shelf.clear()
        self.assertEqual(told, kept)
