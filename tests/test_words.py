"""[3]: what each word of a body does."""

import unittest

from tests.made import thing_of
from tests.samples import ARGUMENT, CELLS, EMPTY, ONE, SET_P, TRUE, call, choice, deed, put_all, rests, sums

ONES = (1,) * 8


def told(body, worth=0, takes="number", tells="number"):
    """What a deed of this body tells for the worth."""
    return thing_of(deed("a", body, takes, tells), cells=CELLS).call("a", worth)


class Words(unittest.TestCase):
    def same(self, one, other):
        """Both are the same, True and 1 not."""
        self.assertEqual((one, type(one)), (other, type(other)))

    def test_numbers(self):
        for number in (-99, -1, 0, 1, 99):
            self.same(told(("number", number)), number)

    def test_truths(self):
        for truth in (True, False):
            self.same(told(("truth", truth), 0, "number", "truth"), truth)

    def test_the_empty_list(self):
        self.same(told(EMPTY, 0, "number", "list"), ())

    def test_the_argument(self):
        for kind, worths in (("number", (-999, -1, 0, 1, 999)), ("truth", (True, False)),
                             ("list", ((), (0,), (999, -999), ONES))):
            for worth in worths:
                self.same(told(ARGUMENT, worth, kind, kind), worth)

    def test_plus_less_and_times(self):
        for x, y in ((2, 3), (3, 2), (-5, 7), (0, 0), (10, -10)):
            arms = (("number", x), ("number", y))
            self.assertEqual(told(("plus",) + arms), x + y)
            self.assertEqual(told(("less",) + arms), x - y)
            self.assertEqual(told(("times",) + arms), x * y)

    def test_numbers_at_the_bounds_and_beyond(self):
        for word, x, y, worth in (
                ("plus", 999, 0, 999), ("plus", 998, 1, 999), ("plus", 999, 1, 999), ("plus", 950, 99, 999),
                ("plus", -998, -1, -999), ("plus", -999, -1, -999), ("plus", -999, 1, -998),
                ("less", -998, 1, -999), ("less", -999, 1, -999), ("less", 998, -1, 999), ("less", 999, -99, 999),
                ("less", 999, 1, 998), ("less", -999, -1, -998),
                ("times", 333, 3, 999), ("times", 500, 2, 999), ("times", -333, 3, -999), ("times", -500, 2, -999),
                ("times", 999, -1, -999), ("times", -999, -1, 999), ("times", -999, -2, 999)):
            self.assertEqual(told((word, ARGUMENT, ("number", y)), x), worth, (word, x, y))
        self.assertEqual(told(("times", ARGUMENT, ARGUMENT), 999), 999)
        self.assertEqual(told(("times", ARGUMENT, ARGUMENT), -999), 999)

    def test_below(self):
        for x, y in ((1, 2), (2, 2), (3, 2), (-1, 0), (0, -1)):
            self.same(told(("below", ARGUMENT, ("number", y)), x, "number", "truth"), x < y)

    def test_same(self):
        for kind, one, other in (("number", 3, 4), ("truth", True, False), ("list", (1, 2), (2, 1)),
                                 ("list", (), (0,)), ("number", 0, -999)):
            deeds = [deed("a", ("then", call("b"), ONE), kind),
                     deed("b", ("set", "p", ARGUMENT), kind, kind),
                     deed("c", ("same", ARGUMENT, ("cell", "p")), kind, "truth")]
            thing = thing_of(*deeds, cells=[("p", kind)])
            thing.call("a", one)
            self.same(thing.call("c", one), True)
            self.same(thing.call("c", other), False)

    def test_not(self):
        self.same(told(("not", ARGUMENT), True, "truth", "truth"), False)
        self.same(told(("not", ARGUMENT), False, "truth", "truth"), True)

    def test_and(self):
        for one in (True, False):
            for other in (True, False):
                body = ("and", ARGUMENT, ("truth", other))
                self.same(told(body, one, "truth", "truth"), one and other)

    def test_the_second_arm_of_and_comes_only_if_the_first_is_true(self):
        set_q = ("set", "q", TRUE)
        for first in (True, False):
            thing = thing_of(deed("a", ("and", ARGUMENT, set_q), "truth", "truth"), cells=CELLS)
            self.same(thing.call("a", first), first)
            self.assertEqual(thing.cells()[1], ("q", first))

    def test_if(self):
        body = choice(("below", ARGUMENT, ONE), put_all(2), put_all(3))
        self.assertEqual(told(body, 0, "number", "list"), (2,))
        self.assertEqual(told(body, 1, "number", "list"), (3,))

    def test_one_arm_of_if_comes(self):
        body = choice(ARGUMENT, ("set", "p", ("plus", ("cell", "p"), ONE)), ("set", "p", ("number", 50)))
        thing = thing_of(deed("a", body, "truth"), cells=CELLS)
        self.assertEqual([thing.call("a", worth) for worth in (True, True, False, True)], [1, 2, 50, 51])

    def test_put(self):
        body = ("put", ("number", 7), ARGUMENT)
        for rows in ((), (1,), (1, 2), (1,) * 7):
            self.same(told(body, rows, "list", "list"), (7,) + rows)

    def test_a_put_on_a_list_of_eight(self):
        self.assertEqual(told(("put", ("number", 7), ARGUMENT), ONES, "list", "list"), ONES)
        self.assertEqual(told(put_all(1, 2, 3, 4, 5, 6, 7, 8), 0, "number", "list"), (1, 2, 3, 4, 5, 6, 7, 8))
        thing = thing_of(deed("a", ("put", SET_P, ARGUMENT), "list", "list"), cells=CELLS)
        self.assertEqual(thing.call("a", ONES), ONES)
        self.assertEqual(thing.cells()[0], ("p", 1))

    def test_first_rest_and_many(self):
        for rows in ((5,), (-999, 2), (0, 1, 2), ONES):
            self.same(told(("first", ARGUMENT), rows, "list"), rows[0])
            self.same(told(("rest", ARGUMENT), rows, "list", "list"), rows[1:])
            self.same(told(("many", ARGUMENT), rows, "list"), len(rows))

    def test_first_rest_and_many_of_the_empty_list(self):
        self.same(told(("first", ARGUMENT), (), "list"), 0)
        self.same(told(("rest", ARGUMENT), (), "list", "list"), ())
        self.same(told(("many", ARGUMENT), (), "list"), 0)

    def test_set_tells_what_the_cell_gets(self):
        for kind, cell, worth in (("number", "p", -999), ("truth", "q", True), ("list", "r", ONES)):
            thing = thing_of(deed("a", ("set", cell, ARGUMENT), kind, kind), deed("b", ("cell", cell), "list", kind),
                             cells=CELLS)
            self.same(thing.call("a", worth), worth)
            self.same(thing.call("b", ()), worth)

    def test_then(self):
        self.assertEqual(told(("then", SET_P, ("cell", "p"))), 1)
        self.assertEqual(told(("then", ("cell", "p"), SET_P)), 1)
        self.assertEqual(told(("then", ("set", "q", TRUE), ("number", 4))), 4)

    def test_call(self):
        thing = thing_of(deed("a", ("plus", call("b", ("plus", ARGUMENT, ARGUMENT)), ARGUMENT)),
                         deed("b", ("times", ARGUMENT, ("number", 10))))
        self.assertEqual(thing.call("a", 3), 63)
        self.assertEqual(thing.call("b", 3), 30)

    def test_arms_come_in_turn(self):
        twice = ("set", "p", ("times", ("cell", "p"), ("number", 2)))
        self.assertEqual(told(("less", SET_P, twice)), -1)
        self.assertEqual(told(("less", twice, SET_P)), -1)
        self.assertEqual(told(("plus", ("then", SET_P, twice), SET_P)), 5)
        self.assertEqual(told(("put", SET_P, ("put", twice, ("put", SET_P, EMPTY))), 0, "number", "list"), (1, 2, 3))
        self.assertEqual(told(("set", "p", ("plus", SET_P, ("cell", "p")))), 2)

    def test_a_body_within_nine_others(self):
        self.assertEqual(told(("many", rests(8))), 0)
        body = ARGUMENT
        for _ in range(9):
            body = ("plus", ONE, body)
        self.assertEqual(told(body, 5), 14)

    def test_a_body_of_sixty_words(self):
        self.assertEqual(told(("set", "p", sums(30)), 2), 60)
