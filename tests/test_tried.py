"""[13]: what a new thing's call would tell, the parts being right or not."""

import unittest

from partdeeds.errors import BadCall, NotWhole
from partdeeds.things import tried
from tests.samples import (ARGUMENT, CELLS, EMPTY, FALSE, ONE, TRUE, ask, call, choice, counting, deed, endless,
                           filled, of, part, put_all, thens, thousand)

OF_KIND = {"number": ONE, "truth": TRUE, "list": EMPTY}
ARMS = {"plus": ("number", "number"), "less": ("number", "number"), "times": ("number", "number"),
        "below": ("number", "number"), "not": ("truth",), "and": ("truth", "truth"), "put": ("number", "list"),
        "first": ("list",), "rest": ("list",), "many": ("list",)}
# A word that goes wrong, and one that never ends; both deeds are in parts where they are called.
WRONG = ("not", ONE)
LOOP = call("f")


def told(body, worth=0, others=(), cells=CELLS):
    """What is told of a deed of this body, beside one that never ends."""
    deeds = sorted([deed("a", body), deed("f", endless("f"))] + list(others))
    return tried([part("A", deeds, [], cells)], of("A"), "a", worth)


class Tried(unittest.TestCase):
    def wrong(self, *bodies):
        for body in bodies:
            self.assertEqual(told(body), ("wrong",), body)

    def long(self, *bodies):
        for body in bodies:
            self.assertEqual(told(body), ("long",), body)

    def tells(self, body, worth, argument=0):
        one = told(body, argument)
        self.assertEqual((one, [type(member) for member in one]), (("told", worth), [str, type(worth)]), body)


class Told(Tried):
    def test_what_right_parts_tell(self):
        self.tells(("plus", ARGUMENT, ONE), 6, 5)
        self.tells(("set", "r", put_all(1, 2)), (1, 2))
        self.tells(("cell", "p"), 0)
        self.tells(("cell", "q"), False)
        self.tells(("cell", "r"), ())

    def test_each_call_is_of_a_new_thing(self):
        body = ("set", "p", ("plus", ("cell", "p"), ONE))
        self.assertEqual([told(body), told(body)], [("told", 1)] * 2)

    def test_what_a_deed_tells_may_be_of_another_kind_than_it_says(self):
        self.tells(TRUE, True)
        self.tells(EMPTY, ())
        self.assertEqual(told(("not", call("b")), 0, [deed("b", TRUE)]), ("told", False))

    def test_the_argument_may_be_of_any_kind(self):
        for worth in (5, True, False, (1, 2), (), -999):
            self.tells(ARGUMENT, worth, worth)
            self.assertEqual(told(call("b"), worth, [deed("b")]), ("told", worth))
        self.tells(("not", ARGUMENT), False, True)
        self.assertEqual(told(("not", ARGUMENT), 1), ("wrong",))
        self.assertEqual(told(call("b", EMPTY), 0, [deed("b", ("many", ARGUMENT))]), ("told", 0))
        self.assertEqual(told(call("b", EMPTY), 0, [deed("b", ("plus", ARGUMENT, ONE))]), ("wrong",))

    def test_same_of_unlike_kinds_is_false(self):
        for one, other in ((ONE, TRUE), (TRUE, ONE), (("number", 0), FALSE), (FALSE, ("number", 0)),
                           (FALSE, EMPTY), (EMPTY, ("number", 0)), (ONE, put_all(1))):
            self.tells(("same", one, other), False)
        for body in (ONE, TRUE, FALSE, EMPTY, put_all(3)):
            self.tells(("same", body, body), True)

    def test_if_of_unlike_kinds(self):
        self.tells(choice(TRUE, ONE, EMPTY), 1)
        self.tells(choice(FALSE, ONE, EMPTY), ())
        self.tells(choice(TRUE, FALSE, ONE), False)

    def test_then_of_any_kinds(self):
        for first in (ONE, TRUE, EMPTY):
            self.tells(("then", first, TRUE), True)

    def test_arms_that_do_not_come_may_be_wrong(self):
        for body in (WRONG, LOOP, call("h"), ("cell", "s"), ("set", "p", TRUE)):
            self.tells(choice(TRUE, ONE, body), 1)
            self.tells(choice(FALSE, body, ONE), 1)
            self.tells(("and", FALSE, body), False)
        self.tells(("and", FALSE, ONE), False)


class Wrong(Tried):
    def test_arms_of_another_kind(self):
        for word in ARMS:
            good = [OF_KIND[kind] for kind in ARMS[word]]
            self.assertEqual(told((word, *good))[0], "told")
            for at in range(len(good)):
                for kind in OF_KIND:
                    if kind != ARMS[word][at]:
                        self.wrong((word, *good[:at], OF_KIND[kind], *good[at + 1:]))
        self.wrong(choice(ONE, ONE, ONE), choice(EMPTY, ONE, ONE), choice(("number", 0), ONE, ONE))

    def test_a_cell_that_is_not_there(self):
        self.wrong(("cell", "s"), ("set", "s", ONE), ("then", ("cell", "s"), ONE), ("plus", ONE, ("set", "s", ONE)))
        self.assertEqual(told(("cell", "p"), cells=()), ("wrong",))

    def test_a_cell_that_has_two_kinds(self):
        kinds = ("number", "truth", "list")
        for kind in kinds:
            for other in kinds:
                for body in [("cell", "p")] + [("set", "p", OF_KIND[one]) for one in kinds]:
                    shelf = [part("A", [deed("a", body)], [], [("p", kind)]), part("B", [], [], [("p", other)])]
                    for tree in (("with", of("A"), of("B")), ("over", of("A"), "B")):
                        told = tried(shelf, tree, "a", 0)
                        if kind != other:
                            self.assertEqual(told, ("wrong",))
                        elif body in (("cell", "p"), ("set", "p", OF_KIND[kind])):
                            self.assertEqual(told[0], "told")

    def test_a_cell_of_two_kinds_that_does_not_come(self):
        shelf = [part("A", [deed("a", ("cell", "q"))], [], CELLS), part("B", [], [], [("p", "list")])]
        self.assertEqual(tried(shelf, ("with", of("A"), of("B")), "a", 0), ("told", False))

    def test_a_cell_set_to_another_kind_than_its_own(self):
        for cell, kind in CELLS:
            for other in OF_KIND:
                body = ("set", cell, OF_KIND[other])
                self.assertEqual(told(body)[0], "told" if kind == other else "wrong")
        self.wrong(("set", "q", ("number", 0)), ("set", "p", FALSE))

    def test_a_cell_keeps_its_kind(self):
        self.wrong(("then", ("set", "p", ("number", 5)), ("set", "p", TRUE)))
        self.tells(("then", ("set", "r", put_all(1)), ("set", "r", EMPTY)), ())

    def test_a_deed_that_is_not_there(self):
        self.wrong(call("h"), ("then", ONE, call("h")), call("h", EMPTY))
        self.assertEqual(told(call("b"), 0, [deed("b", call("h"))]), ("wrong",))

    def test_a_deed_that_was_left_out(self):
        shelf = [part("A", [deed("a", call("h"))]), part("B", [deed("h")])]
        both = ("with", of("A"), of("B"))
        self.assertEqual(tried(shelf, both, "a", 7), ("told", 7))
        self.assertEqual(tried(shelf, ("without", both, "h"), "a", 7), ("wrong",))
        self.assertEqual(tried(shelf, ("renamed", both, "h", "g"), "a", 7), ("told", 7))

    def test_kinds_that_do_not_fit(self):
        shelf = [part("A", [deed("a", ("plus", call("b"), ONE))], [ask("b")]),
                 part("B", [deed("b", TRUE, "list", "truth")]), part("C", [deed("b", ("number", 3), "list")])]
        self.assertEqual(tried(shelf, ("with", of("A"), of("B")), "a", 7), ("wrong",))
        self.assertEqual(tried(shelf, ("with", of("A"), of("C")), "a", 7), ("told", 4))


class InTurn(Tried):
    def test_all_arms_come_ahead_of_a_look_at_their_kinds(self):
        for word in ("plus", "less", "times", "below", "put"):
            self.long((word, TRUE, LOOP))
            self.wrong((word, TRUE, ("number", 1)), (word, WRONG, LOOP))
        self.long(("same", TRUE, LOOP), ("not", LOOP), ("then", ONE, LOOP))
        self.wrong(("then", WRONG, LOOP), ("same", WRONG, LOOP))

    def test_a_look_at_the_first_arm_of_if_and_and(self):
        self.wrong(("and", ONE, LOOP), ("and", EMPTY, LOOP), ("and", ("number", 0), LOOP))
        self.wrong(choice(ONE, LOOP, LOOP), choice(EMPTY, LOOP, LOOP))
        self.long(("and", TRUE, LOOP), choice(TRUE, LOOP, ONE), choice(FALSE, ONE, LOOP))
        self.long(("and", LOOP, ONE), choice(LOOP, ONE, ONE))
        self.wrong(("and", TRUE, WRONG), choice(TRUE, WRONG, LOOP), choice(FALSE, LOOP, WRONG))

    def test_a_set_looks_at_its_cell_behind_its_arm(self):
        self.long(("set", "s", LOOP), ("set", "p", ("not", LOOP)))
        self.wrong(("then", ("set", "s", ONE), LOOP), ("then", ("set", "p", TRUE), LOOP))
        self.wrong(("set", "p", ("then", ("set", "p", TRUE), LOOP)))
        shelf = [part("A", [deed("a", ("set", "p", LOOP)), deed("f", endless("f"))], [], CELLS),
                 part("B", [], [], [("p", "list")])]
        self.assertEqual(tried(shelf, ("with", of("A"), of("B")), "a", 0), ("long",))

    def test_a_call_looks_for_its_deed_behind_its_arm(self):
        self.long(call("h", LOOP))
        self.wrong(call("h", WRONG), call("f", WRONG), ("then", call("h"), LOOP))

    def test_it_is_over_by_the_first(self):
        self.wrong(("then", WRONG, LOOP), ("plus", ("cell", "s"), LOOP))
        self.long(("then", LOOP, WRONG), ("plus", LOOP, ("cell", "s")))


class Long(Tried):
    def test_a_thousand_steps_and_one_more(self):
        for more, one in ((0, ("told", 1)), (1, ("long",)), (19, ("long",))):
            self.assertEqual(tried([part("A", thousand(more))], of("A"), "a", 0), one)

    def test_the_last_step_is_taken_as_its_word_begins(self):
        # Five steps are a's own words, 53 b's, and 900 c's in 18 calls: 42 are left for d's.
        others = [deed("a", ("then", call("b"), call("d"))), deed("b", thens([call("c")] * 18)),
                  deed("c", filled(50))]
        for body, words in ((("cell", "s"), 1), (("set", "s", ONE), 2), (("not", ONE), 2), (call("h"), 2),
                            (("set", "p", TRUE), 2), (("plus", ONE, TRUE), 3), (("and", ONE, ONE), 2),
                            (choice(EMPTY, ONE, ONE), 2)):
            for more, one in ((0, "wrong"), (1, "long")):
                ended = deed("d", ("then", filled(41 - words + more), body))
                self.assertEqual(tried([part("A", others + [ended])], of("A"), "a", 0), (one,), body)

    def test_calls_within_twenty_others_and_one_more(self):
        self.assertEqual([told(counting("a"), worth) for worth in (20, 21)], [("told", 0), ("long",)])
        self.assertEqual(told(counting("a", TRUE), 20), ("told", True))

    def test_a_deed_that_is_not_there_within_however_many_others(self):
        missing = counting("a", call("h"))
        for worth in (0, 1, 18, 19, 20):
            self.assertEqual(told(missing, worth), ("wrong",))
        self.assertEqual(told(missing, 21), ("long",))

    def test_a_deed_that_is_there_within_one_more(self):
        there = counting("a", call("b"))
        self.assertEqual(told(there, 19, [deed("b")]), ("told", 0))
        self.assertEqual(told(there, 20, [deed("b")]), ("long",))

    def test_the_argument_of_a_call_comes_ahead_of_it(self):
        self.assertEqual(told(counting("a", call("b", WRONG)), 20, [deed("b")]), ("wrong",))
        self.assertEqual(told(counting("a", call("b", call("b"))), 19, [deed("b")]), ("told", 0))

    def test_the_body_of_a_call_that_is_too_far_within_does_not_come(self):
        self.assertEqual(told(counting("a", call("b")), 20, [deed("b", WRONG)]), ("long",))
        self.assertEqual(told(counting("a", call("b")), 19, [deed("b", WRONG)]), ("wrong",))


class Refused(unittest.TestCase):
    LACKING = part("A", [deed("a", call("b")), deed("c")], [ask("b")])

    def refused(self, error, shelf, tree, name="a", worth=0):
        with self.assertRaises(error):
            tried(shelf, tree, name, worth)

    def test_clashes_and_lacks(self):
        both = ("with", of("A"), of("B"))
        self.refused(NotWhole, [self.LACKING], of("A"))
        self.refused(NotWhole, [self.LACKING], of("A"), "c")
        self.refused(NotWhole, [self.LACKING, part("B", [deed("b"), deed("c", ONE)])], both)
        self.refused(NotWhole, [part("A", [deed("a")]), part("B", [deed("a")])], both)
        self.assertEqual(tried([self.LACKING, part("B", [deed("b")])], both, "a", 4), ("told", 4))

    def test_a_deed_that_is_not_there(self):
        for name in ("b", "h", "p", "A", "", "aa"):
            self.refused(BadCall, [part("A", [deed("a")])], of("A"), name)

    def test_no_worth(self):
        for worth in (1000, -1000, "", "1", None, (0,) * 9, (1000,), (True,), ("1",), ((1,),), [1]):
            self.refused(BadCall, [part("A", [deed("a")])], of("A"), "a", worth)
        for worth in (999, -999, (0,) * 8, (999, -999)):
            self.assertEqual(tried([part("A", [deed("a")])], of("A"), "a", worth), ("told", worth))

    def test_not_whole_ahead_of_a_bad_call(self):
        self.refused(NotWhole, [self.LACKING], of("A"), "h", 1000)

    def test_a_bad_call_ahead_of_what_would_be_told(self):
        self.refused(BadCall, [part("A", [deed("a", endless("a"))])], of("A"), "a", 1000)

    def test_deeds_that_are_not_called_may_be_wrong(self):
        shelf = [part("A", [deed("a", ONE), deed("b", ("not", ONE))])]
        self.assertEqual(tried(shelf, of("A"), "a", 0), ("told", 1))
