"""[1] and [9], and [7], [8], [11] against the second way of tests/model.py, by many shelves and trees."""

import copy
import unittest

from partdeeds.parts import right
from partdeeds.trees import alike, forms, parted, wanting
from tests.chance import cases
from tests.model import facts_of, forms_of, own_facts, parted_of, wanting_of
from tests.samples import of


class Laws(unittest.TestCase):
    def same(self, shelf, one, other):
        self.assertIs(alike(shelf, one, other), True)
        self.assertIsNone(parted(shelf, one, other))
        self.assertEqual(forms(shelf, one), forms(shelf, other))
        self.assertEqual(wanting(shelf, one), wanting(shelf, other))

    def test_in_which_order_is_all_one(self):
        for shelf, one, other, _ in cases(300, 1):
            self.same(shelf, ("with", one, other), ("with", other, one))

    def test_by_which_brackets_is_all_one(self):
        for shelf, one, other, third in cases(300, 2):
            self.same(shelf, ("with", ("with", one, other), third), ("with", one, ("with", other, third)))

    def test_a_tree_with_itself_is_itself(self):
        for shelf, one, other, third in cases(300, 3):
            self.same(shelf, ("with", one, one), one)
            self.same(shelf, ("with", ("with", one, other), one), ("with", other, one))

    def test_left_out_and_the_part_put_with_it_again(self):
        again = 0
        for shelf, tree, _, _ in cases(300, 4):
            for part in shelf:
                for row in part[1]:
                    told = ("with", ("without", tree, row[0]), of(part[0]))
                    before = {fact for fact in facts_of(shelf, tree) if fact[0] != row[0]}
                    self.assertEqual(forms(shelf, told), forms_of(before | own_facts(part)))
                    again += 1
        self.assertGreater(again, 300)

    def test_left_out_and_put_with_it_again_by_itself(self):
        for shelf, _, _, _ in cases(100, 5):
            for part in shelf:
                for row in part[1]:
                    self.same(shelf, ("with", ("without", of(part[0]), row[0]), of(part[0])), of(part[0]))

    def test_the_order_of_the_shelf_is_all_one(self):
        for shelf, tree, other, _ in cases(100, 6):
            back = shelf[::-1]
            self.assertEqual(forms(shelf, tree), forms(back, tree))
            self.assertEqual(wanting(shelf, tree), wanting(back, tree))
            self.assertEqual(parted(shelf, tree, other), parted(back, tree, other))


class BothWays(unittest.TestCase):
    def test_forms_and_wanting(self):
        wanted = [0, 0, 0, 0]
        for shelf, tree, _, _ in cases(1500, 7):
            facts = facts_of(shelf, tree)
            self.assertEqual(forms(shelf, tree), forms_of(facts))
            told = wanting(shelf, tree)
            self.assertEqual(told, wanting_of(facts))
            wanted = [many + bool(row) for many, row in zip(wanted, told)]
        self.assertGreater(min(wanted), 100)

    def test_alike_and_parted(self):
        for shelf, one, other, _ in cases(1000, 8):
            first = parted_of(facts_of(shelf, one), facts_of(shelf, other))
            self.assertEqual(parted(shelf, one, other), first)
            self.assertIs(alike(shelf, one, other), first is None)


class Untouched(unittest.TestCase):
    def test_nothing_is_changed_and_the_same_is_told_again(self):
        for shelf, one, other, _ in cases(100, 9):
            before = copy.deepcopy((shelf, one, other))
            told = [(forms(shelf, one), wanting(shelf, one), parted(shelf, one, other), right(shelf[0]))
                    for _ in range(2)]
            self.assertEqual((shelf, one, other), before)
            self.assertEqual(told[0], told[1])

    def test_what_is_told_shares_no_list_with_what_is_told_again(self):
        for shelf, tree, _, _ in cases(100, 10):
            kept = copy.deepcopy((forms(shelf, tree), wanting(shelf, tree)))
            told = forms(shelf, tree)
            for row in told:
                row[1].clear()
            told.clear()
            for row in wanting(shelf, tree):
                row.append("more")
            self.assertEqual((forms(shelf, tree), wanting(shelf, tree)), kept)
