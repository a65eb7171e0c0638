"""[16]: parts and trees as texts."""

import random
import unittest

from partdeeds.errors import BadPart, BadShelf, BadText, BadTree
from partdeeds.notes import read, read_tree, written, written_tree
from tests.chance import cases
from tests.rights import right_shelf
from tests.samples import (ARGUMENT, EMPTY, ONE, TRUE, ask, bush, call, chain, choice, deed, nots, of, part, put_all,
                           rests, sums)

FULL = part("C", [deed("a", call("b", ("plus", ARGUMENT, ("number", -3)))),
                  deed("h", ("set", "q", ("not", ("truth", False))), "list", "truth")],
            [ask("b"), ask("c", "truth", "list")], [("p", "list"), ("q", "truth")])
FULL_TEXT = """part C
deed a number number call b plus argument number -3
deed h list truth set q not truth False
ask b number number
ask c truth list
cell p list
cell q truth"""
SHELF = [FULL, part("A"), part("B")]


def with_body(text):
    return "part A\ndeed a number number " + text


class Written(unittest.TestCase):
    def body(self, body, text):
        self.assertEqual(written(part("A", [deed("a", body)])), with_body(text))

    def test_a_part(self):
        self.assertEqual(written(FULL), FULL_TEXT)
        self.assertEqual(written(part("F")), "part F")
        self.assertEqual(written(part("A", [], [ask("h", "list")])), "part A\nask h list number")
        self.assertEqual(written(part("A", [], [], [("s", "truth")])), "part A\ncell s truth")
        self.assertEqual(written(part("A", [deed("a", EMPTY)], [], [("s", "number")])),
                         "part A\ndeed a number number empty\ncell s number")

    def test_each_word_of_a_body(self):
        self.body(("plus", ARGUMENT, ("number", -3)), "plus argument number -3")
        self.body(TRUE, "truth True")
        self.body(("set", "p", call("b", EMPTY)), "set p call b empty")
        for word in ("plus", "less", "times", "below", "same", "and", "put", "then"):
            self.body((word, ("cell", "r"), ("truth", False)), word + " cell r truth False")
        for word in ("not", "first", "rest", "many"):
            self.body((word, EMPTY), word + " empty")
        self.body(choice(TRUE, ONE, put_all(2)), "if truth True number 1 put number 2 empty")

    def test_numbers(self):
        for number in (0, 5, -5, 10, -10, 99, -99):
            self.body(("number", number), "number " + str(number))

    def test_a_tree(self):
        tree = ("without", ("with", of("A"), of("B")), "c")
        self.assertEqual(written_tree(SHELF, tree), "without with part A part B c")
        self.assertEqual(written_tree(SHELF, of("C")), "part C")
        self.assertEqual(written_tree(SHELF, ("with", of("A"), ("also", of("B"), "a", "h"))),
                         "with part A also part B a h")
        self.assertEqual(written_tree(SHELF, ("renamed", ("over", of("A"), "C"), "b", "a")),
                         "renamed over part A C b a")

    def test_what_is_no_part(self):
        for wrong, why in ((part("G"), "name"), (part("A", [deed("a", ("number", 100))]), "deeds"),
                           (part("A", [deed("a")], [ask("a")]), "asks"), (part("A") + ((),), "cells"), ((), "name")):
            with self.assertRaises(BadPart) as told:
                written(wrong)
            self.assertEqual(told.exception.why, why)

    def test_what_is_no_tree(self):
        for wrong in (of("D"), of("a"), (), ("with", of("A")), ("without", of("A"), "p"), bush(21), chain(10)):
            with self.assertRaises(BadTree):
                written_tree(SHELF, wrong)


class ReadAgain(unittest.TestCase):
    def again(self, one):
        """The same is read, True and 1 unlike."""
        self.assertEqual(repr(read(written(one))), repr(one))

    def test_parts(self):
        for one in [FULL] + SHELF:
            self.again(one)
        self.assertEqual(read(FULL_TEXT), FULL)

    def test_bodies_at_the_bounds(self):
        for body in (("number", 99), ("number", -99), ("number", 0), nots(9), rests(9), ("not", sums(29)),
                     call("a", sums(30)), ("many", ("put", sums(28), put_all(1)))):
            self.again(part("A", [deed("a", body)]))

    def test_eight_deeds_asks_and_four_cells(self):
        cells = [(cell, "list") for cell in "pqrs"]
        self.again(part("B", [deed(name) for name in "abcdefgh"], [], cells))
        self.again(part("B", [], [ask(name, "list") for name in "abcdefgh"], cells))
        self.again(part("B", [deed("a", nots(9)), deed("c")], [ask("b"), ask("d")], cells))

    def test_parts_and_trees_by_chance(self):
        chance = random.Random(50)
        for shelf, one, other, _ in cases(300, 51):
            for tree in (one, other):
                self.assertEqual(read_tree(shelf, written_tree(shelf, tree)), tree)
            for row in shelf + right_shelf(chance):
                self.again(row)

    def test_trees_at_the_bounds(self):
        for tree in (chain(9), bush(20), ("without", bush(19), "a"), ("with", chain(8), bush(10))):
            self.assertEqual(read_tree(SHELF, written_tree(SHELF, tree)), tree)


class BadRows(unittest.TestCase):
    def refused(self, text, place):
        with self.assertRaises(BadText) as told:
            read(text)
        self.assertEqual((told.exception.place, type(told.exception.place)), (place, int), text)

    def body_refused(self, *bodies):
        for body in bodies:
            self.refused(with_body(body), 1)

    def test_the_empty_text(self):
        self.refused("", 0)

    def test_line_ends(self):
        self.refused("part A\n", 1)
        self.refused(FULL_TEXT + "\n", 7)
        self.refused("\n" + FULL_TEXT, 0)
        self.refused("\n", 0)
        self.refused("part A\n\ncell p list", 1)
        self.refused("part A\ncell p list\n\n", 2)

    def test_blanks(self):
        for row in (" part A", "part A ", "part  A", " ", "part A b", "part", "part ", "partA"):
            self.refused(row, 0)
        for row in (" cell p list", "cell p list ", "cell  p list", "cell p  list", "ask a list list ",
                    " ask a list list", "ask a  list list", "deed a list list empty ", "deed a list list  empty",
                    " deed a list list empty",
                    "deed  a list list empty", "deed a list list rest  empty", "", " ", "  "):
            self.refused("part A\n" + row, 1)

    def test_rows_of_no_kind(self):
        for row in ("deeds a list list empty", "Deed a list list empty", "PART A", "a", "number 1", "set p number 1",
                    "asks b list list", "tree A", "argument", "-", "~"):
            self.refused(row, 0)
            self.refused("part A\n" + row, 1)
            self.refused(FULL_TEXT + "\n" + row, 7)

    def test_names_of_the_wrong_sort(self):
        for name in ("G", "a", "p", "AB", "", "A,", "part", "Part"):
            self.refused("part " + name, 0)
        for name in ("i", "A", "p", "ab", "a-", "a,b", "deed"):
            self.refused("part A\nask {} list list".format(name), 1)
            self.refused("part A\ndeed {} list list empty".format(name), 1)
            self.body_refused("call {} argument".format(name))
        for name in ("t", "o", "a", "A", "pq", "cell"):
            self.refused("part A\ncell {} list".format(name), 1)
            self.body_refused("cell {}".format(name), "set {} argument".format(name))

    def test_kinds(self):
        for kind in ("Number", "numbers", "text", "True", "empty", "a", "list,"):
            for row in ("cell p {}", "ask a {} list", "ask a list {}", "deed a {} list empty", "deed a list {} empty"):
                self.refused("part A\n" + row.format(kind), 1)

    def test_too_few_and_too_many_words(self):
        for row in ("cell", "cell p", "cell p list list", "cell p list p", "ask", "ask a", "ask a list",
                    "ask a list list list", "ask a list list argument", "part A", "deed", "deed a", "deed a list",
                    "deed a list list", "deed argument"):
            self.refused("part A\n" + row, 1)

    def test_a_body_too_short_or_too_long(self):
        self.body_refused("plus", "plus argument", "plus argument plus argument", "if truth True empty", "not",
                          "number",
                          "truth", "cell", "set", "set p", "call", "call a", "then empty", "put number 1", "many")
        self.body_refused("argument argument", "empty empty", "number 1 1", "number 1 number 1", "truth True False",
                          "not truth True empty", "plus argument argument argument", "cell p p", "cell p argument",
                          "set p argument p", "call a argument a", "if truth True empty empty empty")

    def test_words_that_can_not_stand_there(self):
        self.body_refused("a", "1", "True", "number argument", "number True", "number p", "truth 1", "truth true",
                          "truth number 1", "truth argument", "truth T", "set argument", "set argument p",
                          "call argument a", "call argument", "cell list", "list", "plus 1 1", "not True",
                          "with empty empty", "part A", "Plus argument argument", "deed a number number empty",
                          "cell True", "call 1 empty")

    def test_numbers(self):
        for number in ("-0", "00", "01", "-01", "001", "-00", "000", "099", "1000", "-1000", "0000", "0001", "+1",
                       "--1",
                       "-", "", "1-", "1.0", "1_0", "1e1", "0x1", "one", "-+1", "- 1", "1 0", "-a", "a", "99-"):
            self.body_refused("number " + number, "plus number {} argument".format(number))
        for number in (0, 1, 9, 10, 99, -1, -9, -10, -99):
            told = read(with_body("number {}".format(number)))
            self.assertEqual(repr(told[1][0][3]), repr(("number", number)))

    def test_a_later_kind_ahead(self):
        head, one, asked, cell = "part A", "deed a list list empty", "ask b list list", "cell p list"
        self.refused("\n".join((head, asked, one)), 2)
        self.refused("\n".join((head, cell, one)), 2)
        self.refused("\n".join((head, cell, asked)), 2)
        self.refused("\n".join((head, one, cell, asked)), 3)
        self.refused("\n".join((head, one, asked, "deed b list list empty", cell)), 3)
        self.refused("\n".join((head, one, cell, asked, one)), 3)
        self.assertEqual(read("\n".join((head, one, asked, cell)))[0], "A")
        self.assertEqual(read("\n".join((head, one, cell)))[0], "A")

    def test_part_but_once_and_at_the_beginning(self):
        self.refused("part A\npart A", 1)
        self.refused("part A\npart B", 1)
        self.refused(FULL_TEXT + "\npart C", 7)
        self.refused("part A\ndeed a list list empty\npart A\ndeed b list list empty", 2)
        for row in ("deed a list list empty", "ask a list list", "cell p list"):
            self.refused(row, 0)
            self.refused(row + "\npart A", 0)

    def test_the_first_row_that_is_bad(self):
        self.refused("part A\ncell p list\nask a list list\nnone", 2)
        self.refused("part A\nnone\ncell p list\nask a list list", 1)
        self.refused("part G\nnone", 0)
        self.refused("part A\ncell p list\npart A\ncell", 2)

    def test_bodies_far_too_deep(self):
        self.body_refused("not " * 3000 + "none", "not " * 3000 + "empty empty", "then " * 3000 + "empty")


class BadParts(unittest.TestCase):
    def refused(self, text, why):
        with self.assertRaises(BadPart) as told:
            read(text)
        self.assertEqual(told.exception.why, why, text)

    def test_numbers_beyond_a_bodys(self):
        for number in ("100", "-100", "999", "-999", "500"):
            self.refused(with_body("number " + number), "deeds")
            self.refused(with_body("plus argument number " + number), "deeds")

    def test_bodies_of_too_many_words_or_too_deep(self):
        self.refused(with_body("plus argument " * 9 + "plus argument argument"), "deeds")
        self.refused(with_body("not " * 10 + "truth True"), "deeds")
        self.refused(with_body("not " * 3000 + "truth True"), "deeds")
        balanced = "argument"
        for _ in range(5):
            balanced = "plus {} {}".format(balanced, balanced)
        self.assertEqual(len(balanced.split(" ")), 63)
        self.refused(with_body(balanced), "deeds")

    def test_names_that_do_not_rise(self):
        one, asked, cell = "deed {} list list empty", "ask {} list list", "cell {} list"
        for row, why, names in ((one, "deeds", "ab"), (asked, "asks", "ab"), (cell, "cells", "pq")):
            for first, second in ((0, 0), (1, 0), (1, 1)):
                rows = ["part A", row.format(names[first]), row.format(names[second])]
                self.refused("\n".join(rows), why)

    def test_an_ask_for_a_deed_that_is_given(self):
        self.refused("part A\ndeed a list list empty\nask a list list", "asks")
        self.refused("part A\ndeed a list list empty\nask a number list\ncell q list\ncell p list", "asks")

    def test_more_deeds_than_there_are_names(self):
        rows = ["deed {} list list empty".format(name) for name in "abcdefghh"]
        self.refused("\n".join(["part A"] + rows), "deeds")
        rows = ["cell {} list".format(name) for name in "pqrsp"]
        self.refused("\n".join(["part A"] + rows), "cells")

    def test_a_place_ahead_of_that(self):
        with self.assertRaises(BadText) as told:
            read(with_body("number 100") + "\nask a list list\nask a list list\nnone")
        self.assertEqual(told.exception.place, 4)

    def test_a_part_need_not_be_right(self):
        self.assertEqual(read(with_body("call h cell s")), part("A", [deed("a", call("h", ("cell", "s")))]))


class BadTreeTexts(unittest.TestCase):
    def refused(self, place, *texts, shelf=SHELF):
        for text in texts:
            with self.assertRaises(BadText) as told:
                read_tree(shelf, text)
            self.assertEqual((told.exception.place, type(told.exception.place)), (place, int), text)

    def test_how_many_there_are_if_more_must_come(self):
        self.refused(1, "part", "with", "without", "also", "renamed", "over")
        self.refused(2, "with part", "without part", "with with")
        self.refused(3, "with part A", "without part A", "also part A", "renamed part A", "over part A")
        self.refused(4, "also part A a", "renamed part A b", "with part A part", "without over part A")
        self.refused(6, "without with part A part B")
        self.refused(3000, "with " * 2999 + "with")

    def test_the_first_word_that_is_too_many(self):
        self.refused(2, "part A A", "part A part A", "part A ", "part A none", "part A \n")
        self.refused(4, "without part A b b", "over part A B C", "over part A B part A", "without part A b ")
        self.refused(5, "with part A part B part C", "also part A a b c", "renamed part A a b ")

    def test_the_empty_text_and_blanks(self):
        self.refused(0, "", " ", " part A", "  ")
        self.refused(1, "part ", "part  A", "with  part A part B", "over  part A B")
        self.refused(3, "without part A ", "without part A  b", "with part A ")

    def test_line_ends(self):
        self.refused(1, "part A\n", "part \nA", "part A\nB")
        self.refused(0, "\npart A", "part\nA", "\n")
        self.refused(3, "without part A b\n")

    def test_words_that_can_not_stand_there(self):
        self.refused(0, "A", "a", "Part A", "deed a", "number 1", "none", "parts A", "cell p")
        self.refused(1, "with A B", "without A b", "over A B", "part part", "part part A", "also a b part A")
        self.refused(3, "with part A A", "with part A b", "with part A none", "over part A part B", "over part A over")
        self.refused(4, "also part A a part", "renamed part A a A", "also part A a p", "also part A b i",
                     "with part A part b")

    def test_names_of_the_wrong_sort(self):
        self.refused(1, "part a", "part G", "part p", "part AB", "part 1", "part True", "part A,")
        self.refused(3, "over part A a", "over part A G", "over part A p")
        self.refused(3, "without part A A", "without part A p", "without part A i", "without part A ab",
                     "also part A A b", "renamed part A p b", "also part A 1 b", "without part A part")

    def test_the_first_of_several(self):
        self.refused(1, "part G none", "with none none")
        self.refused(2, "with part G part", "with part a")
        self.refused(3, "also part A A A", "also part A p")

    def test_names_of_no_part_of_the_shelf(self):
        for text in ("part D", "with part A part F", "over part A E", "over part D A", "without part E a"):
            with self.assertRaises(BadTree):
                read_tree(SHELF, text)
        with self.assertRaises(BadTree):
            read_tree([], "part A")

    def test_a_place_ahead_of_that(self):
        self.refused(2, "part D none")
        self.refused(3, "with part D", "without part D i")
        self.refused(10, "with with with with with with with with with with")

    def test_too_many_trees_or_too_deep(self):
        def bushes(leaves):
            if leaves == 1:
                return "part A"
            return "with " + bushes(leaves // 2) + " " + bushes(leaves - leaves // 2)
        self.assertEqual(read_tree(SHELF, bushes(20)), bush(20))
        self.assertEqual(read_tree(SHELF, "without " * 9 + "part A" + " h" * 9), chain(9))
        for text in (bushes(21), "without " * 10 + "part A" + " h" * 10, "without " * 3000 + "part A" + " h" * 3000,
                     "without without " + bushes(20) + " h h"):
            with self.assertRaises(BadTree):
                read_tree(SHELF, text)
        self.assertEqual(read_tree(SHELF, "without " + bushes(20) + " h"), ("without", bush(20), "h"))

    def test_the_shelf_ahead_of_the_text(self):
        for text in ("", "none", "part D", "part A"):
            with self.assertRaises(BadPart) as told:
                read_tree([part("A"), part("A"), part("G")], text)
            self.assertEqual(told.exception.why, "name")
            with self.assertRaises(BadShelf):
                read_tree([part("A"), part("A")], text)

    def test_asked_again_the_same_is_told(self):
        self.assertEqual([read_tree(SHELF, "part A"), read_tree(SHELF, "part A")], [of("A")] * 2)
        self.assertEqual([read(FULL_TEXT), read(FULL_TEXT)], [FULL] * 2)
