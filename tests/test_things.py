"""[12]: things, and which ones are refused."""

import unittest

from partdeeds.errors import BadCall, Long, NotRight, NotWhole
from partdeeds.things import Thing
from tests.made import thing_of
from tests.samples import (ARGUMENT, CELLS, EMPTY, FALSE, ONE, SET_P, TRUE, ask, call, choice, counting, deed, endless,
                           filled, of, part, put_all, thens, thousand, with_all)


class Made(unittest.TestCase):
    def test_what_its_cells_begin_as(self):
        cells = thing_of(cells=CELLS + (("s", "list"),)).cells()
        self.assertEqual(cells, [("p", 0), ("q", False), ("r", ()), ("s", ())])
        self.assertEqual([type(worth) for _, worth in cells], [int, bool, tuple, tuple])

    def test_cells_of_all_parts_also_of_those_whose_deeds_are_gone(self):
        shelf = [part("A", [deed("a")], [], [("s", "truth")]), part("B", [deed("a", ONE)], [], [("p", "list")]),
                 part("C", [deed("h")], [], [("r", "number")])]
        self.assertEqual(Thing(shelf, ("over", of("A"), "B")).cells(), [("p", ()), ("s", False)])
        tree = ("with", ("without", of("C"), "h"), ("without", of("A"), "a"))
        self.assertEqual(Thing(shelf, tree).cells(), [("r", 0), ("s", False)])
        self.assertEqual(Thing(shelf, tree).deeds(), [])

    def test_deeds_rising_with_kinds(self):
        shelf = [part("B", [deed("h", EMPTY, "truth", "list")]), part("A", [deed("c", TRUE, "list", "truth")])]
        tree = ("also", ("renamed", ("with", of("B"), of("A")), "c", "g"), "h", "a")
        self.assertEqual(Thing(shelf, tree).deeds(),
                         [("a", "truth", "list"), ("g", "list", "truth"), ("h", "truth", "list")])
        self.assertEqual([type(row) for row in Thing(shelf, tree).deeds()], [tuple] * 3)

    def test_without_deeds_and_cells(self):
        thing = thing_of()
        self.assertEqual((thing.deeds(), thing.cells()), ([], []))

    def test_a_deed_named_a_second_time_does_the_same(self):
        shelf = [part("A", [deed("a", SET_P)], [], [("p", "number")])]
        thing = Thing(shelf, ("also", of("A"), "a", "c"))
        self.assertEqual([thing.call(name, 0) for name in "acca"], [1, 2, 3, 4])

    def test_a_deed_of_another_part_put_over(self):
        shelf = [part("A", [deed("a", call("b")), deed("b", ONE)]), part("B", [deed("b", ("number", 2))])]
        self.assertEqual(Thing(shelf, of("A")).call("a", 0), 1)
        self.assertEqual(Thing(shelf, ("over", of("A"), "B")).call("a", 0), 2)

    def test_a_renamed_deed_is_called_by_its_new_name(self):
        shelf = [part("A", [deed("a", call("b")), deed("b", ("plus", ARGUMENT, ONE))])]
        thing = Thing(shelf, ("renamed", of("A"), "b", "h"))
        self.assertEqual((thing.call("a", 4), thing.call("h", 4)), (5, 5))
        with self.assertRaises(BadCall):
            thing.call("b", 4)

    def test_parts_share_cells(self):
        shelf = [part("A", [deed("a", ("set", "p", ARGUMENT))], [], [("p", "number")]),
                 part("B", [deed("b", ("cell", "p"))], [], [("p", "number")])]
        thing = Thing(shelf, ("with", of("A"), of("B")))
        thing.call("a", 5)
        self.assertEqual(thing.call("b", 0), 5)

    def test_two_things_of_one_tree_are_each_by_itself(self):
        shelf = [part("A", [deed("a", SET_P)], [], CELLS[:1])]
        one, other = Thing(shelf, of("A")), Thing(shelf, of("A"))
        self.assertEqual([one.call("a", 0), one.call("a", 0), other.call("a", 0)], [1, 2, 1])
        self.assertEqual((one.cells(), other.cells()), ([("p", 2)], [("p", 1)]))

    def test_the_shelf_may_be_changed_later(self):
        shelf = [part("A", [deed("a", SET_P)], [], CELLS[:1]), part("B")]
        thing = Thing(shelf, of("A"))
        shelf[0] = part("A", [deed("a", TRUE)])
        shelf.clear()
        self.assertEqual([thing.call("a", 0), thing.call("a", 0)], [1, 2])
        self.assertEqual((thing.deeds(), thing.cells()), ([("a", "number", "number")], [("p", 2)]))

    def test_what_is_told_may_be_changed(self):
        thing = thing_of(deed("a", SET_P), cells=CELLS)
        for ask in (thing.deeds, thing.cells):
            kept = list(ask())
            told = ask()
            told[0] = ("h", 0, 0)
            told.append(("b", "number", "number"))
            self.assertEqual(ask(), kept)
            ask().clear()
            self.assertEqual(ask(), kept)
        with self.assertRaises(BadCall):
            thing.call("b", 0)


class NotRightParts(unittest.TestCase):
    WRONG = [part(name, [deed("a", TRUE)]) for name in "ABCDEF"]

    def refused(self, name, shelf, tree):
        with self.assertRaises(NotRight) as told:
            Thing(shelf, tree)
        self.assertEqual(told.exception.name, name)

    def test_a_part_that_the_tree_names(self):
        self.refused("A", self.WRONG, of("A"))
        self.refused("F", self.WRONG, ("without", of("F"), "a"))
        good = part("A", [deed("b")])
        self.refused("C", [good] + self.WRONG[1:], ("with", of("A"), of("C")))
        self.refused("C", [good] + self.WRONG[1:], ("with", of("C"), of("A")))
        self.refused("C", [good] + self.WRONG[1:], ("over", of("A"), "C"))
        self.refused("C", [good] + self.WRONG[1:], ("renamed", ("also", ("over", of("A"), "C"), "a", "b"), "a", "c"))

    def test_the_first_on_the_shelf(self):
        shelf = [self.WRONG[at] for at in (3, 1, 4, 0)]
        self.refused("D", shelf, with_all(of("A"), of("B"), of("D")))
        self.refused("B", shelf, ("over", ("over", of("A"), "E"), "B"))
        self.refused("E", shelf, ("with", of("A"), of("E")))

    def test_parts_that_the_tree_does_not_name_may_be_wrong(self):
        good = part("A", [deed("b")])
        self.assertEqual(Thing(self.WRONG[1:] + [good], of("A")).call("b", 3), 3)

    def test_each_way_to_be_wrong(self):
        for body in (TRUE, call("h"), ("cell", "s"), ("set", "p", TRUE), call("b"), ("plus", ONE, TRUE)):
            wrong = part("A", [deed("a", body)], [ask("b", "list")], [("p", "number")])
            self.refused("A", [wrong, part("B", [deed("b", ONE, "list")])], ("with", of("A"), of("B")))

    def test_ahead_of_not_whole(self):
        lacking = part("B", [deed("b", call("h"))], [ask("h")])
        self.refused("A", [lacking, self.WRONG[0]], ("with", of("B"), of("A")))
        clashing = part("B", [deed("a")])
        self.refused("C", [clashing, self.WRONG[2]], ("with", of("B"), of("C")))
        unlike = [part("A", [], [], [("p", "list")]), part("B", [deed("a", TRUE)], [], [("p", "truth")])]
        self.refused("B", unlike, ("with", of("A"), of("B")))


class NotWholeTrees(unittest.TestCase):
    def refused(self, shelf, tree):
        with self.assertRaises(NotWhole):
            Thing(shelf, tree)

    def test_each_that_can_be_wanting(self):
        asking = part("A", [deed("a", call("b"))], [ask("b")])
        self.refused([asking], of("A"))
        self.refused([asking, part("B", [deed("a"), deed("b")])], ("with", of("A"), of("B")))
        self.refused([asking, part("B", [deed("b", ONE, "truth")])], ("with", of("A"), of("B")))
        self.refused([asking, part("B", [deed("b", TRUE, "number", "truth")])], ("with", of("A"), of("B")))
        self.refused([part("A", [], [], [("p", "list")]), part("B", [], [], [("p", "truth")])],
                     ("with", of("A"), of("B")))

    def test_an_ask_that_no_body_calls_lacks_nothing(self):
        self.assertEqual(thing_of(deed("a"), asks=[ask("b")]).call("a", 2), 2)


class BadCalls(unittest.TestCase):
    def setUp(self):
        self.thing = thing_of(deed("a", SET_P), deed("b", ("set", "q", ARGUMENT), "truth", "truth"),
                              deed("c", ("set", "r", ARGUMENT), "list", "list"), cells=CELLS)

    def refused(self, name, worth):
        before = self.thing.cells()
        with self.assertRaises(BadCall):
            self.thing.call(name, worth)
        self.assertEqual(self.thing.cells(), before)

    def test_a_deed_that_is_not_there(self):
        for name in ("d", "h", "p", "A", "i", "", "ab"):
            self.refused(name, 1)

    def test_an_argument_of_another_kind(self):
        for name, worths in (("a", (True, False, (), (1,))), ("b", (0, 1, (), (1,))), ("c", (0, 1, True, False))):
            for worth in worths:
                self.refused(name, worth)

    def test_no_worth(self):
        for worth in (1000, -1000, 10 ** 30, "", "1", None):
            self.refused("a", worth)
        for worth in ((1,) * 9, (1000,), (1, -1000), (True,), (1, False), ("1",), ((),), ((1, 2), 3), [1], []):
            self.refused("c", worth)
        for worth in ("True", None, [True], (True,)):
            self.refused("b", worth)

    def test_worths_at_the_bounds(self):
        for worth in ((999, -999), (0,) * 8, ()):
            self.assertEqual(self.thing.call("c", worth), worth)

    def test_a_refused_call_changes_nothing(self):
        self.assertEqual(self.thing.call("a", 0), 1)
        self.refused("a", 1000)
        self.refused("h", 0)
        self.assertEqual(self.thing.call("a", 0), 2)

    def test_ahead_of_long(self):
        thing = thing_of(deed("a", endless("a")))
        with self.assertRaises(BadCall):
            thing.call("a", True)


class LongCalls(unittest.TestCase):
    def long(self, thing, name, worth):
        before = thing.cells()
        with self.assertRaises(Long):
            thing.call(name, worth)
        self.assertEqual(thing.cells(), before)

    def test_a_thousand_steps_and_one_more(self):
        self.assertEqual(thing_of(*thousand()).call("a", 0), 1)
        for more in (1, 2, 19):
            self.long(thing_of(*thousand(more)), "a", 0)

    def test_each_word_takes_one_step(self):
        for body, steps in (
                (ONE, 1), (("first", EMPTY), 2), (("then", TRUE, ARGUMENT), 3), (("then", ("cell", "p"), ONE), 3),
                (("plus", ONE, ONE), 3), (("less", ONE, ONE), 3), (("times", ONE, ARGUMENT), 3),
                (("then", ("below", ONE, ONE), ONE), 5), (("then", ("same", ONE, ONE), ONE), 5),
                (("then", ("not", TRUE), ONE), 4), (("then", ("and", TRUE, TRUE), ONE), 5),
                (("then", ("and", FALSE, ("not", TRUE)), ONE), 4), (choice(TRUE, ONE, SET_P), 3),
                (choice(FALSE, ONE, ("first", EMPTY)), 4), (("many", ("put", ONE, EMPTY)), 4),
                (("many", ("rest", EMPTY)), 3), (SET_P, 4), (call("d"), 3), (call("d", ("plus", ONE, ONE)), 5)):
            self.assertTrue(self.fits(body, 1000 - steps), body)
            self.assertFalse(self.fits(body, 1001 - steps), body)

    def fits(self, body, others):
        """Whether a body comes to its end behind so many other steps."""
        # Five steps are a's own words, 53 are b's; f and g share those that are left.
        each, more = (others - 58) // 18, (others - 58) % 18
        deeds = [deed("a", ("then", call("b"), call("c"))),
                 deed("b", thens([call("f")] * (18 - more) + [call("g")] * more)), deed("c", body), deed("d"),
                 deed("f", filled(each)), deed("g", filled(each + 1))]
        try:
            thing_of(*deeds, cells=CELLS).call("a", 0)
        except Long:
            return False
        return True

    def test_calls_within_twenty_others_and_one_more(self):
        thing = thing_of(deed("a", counting("a")), deed("b", call("a")))
        self.assertEqual(thing.call("a", 20), 0)
        self.long(thing, "a", 21)
        self.assertEqual(thing.call("b", 19), 0)
        self.long(thing, "b", 20)

    def test_calls_beside_one_another_are_not_within_one_another(self):
        body = ("plus", call("b", ("number", 19)), call("b", ("number", 19)))
        thing = thing_of(deed("a", body), deed("b", counting("b")))
        self.assertEqual(thing.call("a", 0), 0)

    def test_calls_that_have_ended_do_not_count(self):
        thing = thing_of(deed("a", counting("a", call("b", call("b", call("b"))))), deed("b"))
        self.assertEqual(thing.call("a", 19), 0)
        self.long(thing, "a", 20)

    def test_calls_of_other_deeds_count_as_well(self):
        def to(name):
            return choice(("below", ARGUMENT, ONE), ARGUMENT, call(name, ("less", ARGUMENT, ONE)))
        thing = thing_of(deed("a", to("b")), deed("b", to("c")), deed("c", to("a")))
        for name in "abc":
            self.assertEqual(thing.call(name, 20), 0)
            self.long(thing, name, 21)

    def test_calls_within_many_words(self):
        # The call's argument is within nine others.
        body = call("a", ("less", ARGUMENT, ONE))
        for _ in range(6):
            body = ("plus", ONE, body)
        thing = thing_of(deed("a", choice(("below", ARGUMENT, ONE), ARGUMENT, body)))
        self.assertEqual(thing.call("a", 20), 120)
        self.long(thing, "a", 21)

    def test_without_end(self):
        self.long(thing_of(deed("a", endless("a"))), "a", 0)
        self.long(thing_of(deed("a", call("b")), deed("b", call("a"))), "b", 0)

    def test_long_in_the_midst_of_a_row_behind_a_set(self):
        body = ("then", SET_P, ("then", ("set", "q", TRUE), ("then", ("set", "r", put_all(1)), counting("b"))))
        thing = thing_of(deed("a", body), deed("b", counting("b", SET_P)), cells=CELLS)
        self.assertEqual(thing.call("b", 20), 1)
        self.long(thing, "a", 30)
        self.assertEqual(thing.cells(), [("p", 1), ("q", False), ("r", ())])
        self.long(thing, "b", 21)
        self.assertEqual(thing.call("b", 20), 2)
        self.assertEqual(thing.call("a", 20), 4)
        self.assertEqual(thing.cells(), [("p", 4), ("q", True), ("r", (1,))])
        self.long(thing, "a", 22)
        self.assertEqual(thing.cells(), [("p", 4), ("q", True), ("r", (1,))])

    def test_steps_begin_anew_with_each_call(self):
        thing = thing_of(*thousand())
        self.assertEqual([thing.call("a", 0) for _ in range(5)], [1] * 5)

    def test_steps_and_calls_begin_anew_behind_a_long_one(self):
        thing = thing_of(deed("a", counting("a")))
        self.long(thing, "a", 999)
        self.assertEqual(thing.call("a", 20), 0)
