"""[12], [13] and [14] against the second way of tests/running.py, by many shelves, trees and rows of calls."""

import copy
import random
import unittest

from partdeeds.errors import BadCall, Long, NotWhole
from partdeeds.flats import flat
from partdeeds.parts import right
from partdeeds.things import Thing, tried
from partdeeds.trees import wanting
from tests.chance import cases, part_of, tree_of
from tests.rights import KINDS, calls_of, whole_cases, worth_of
from tests.running import Second
from tests.samples import of


def outcome(thing, name, worth):
    try:
        return ("told", thing.call(name, worth))
    except Long:
        return ("long",)


def exact(value):
    """The value, True and 1 unlike."""
    return repr(value)


class Rows(unittest.TestCase):
    def test_rows_of_calls(self):
        chance, counts = random.Random(12), {"told": 0, "long": 0}
        for shelf, tree in whole_cases(400, 13):
            thing, second = Thing(shelf, tree), Second(shelf, tree)
            for name, worth in calls_of(chance, thing.deeds()):
                told = outcome(thing, name, worth)
                self.assertEqual(exact(told), exact(second.call(name, worth)))
                self.assertEqual(exact(thing.cells()), exact(sorted(second.worths.items())))
                counts[told[0]] += 1
        self.assertGreater(counts["told"], 3000)
        self.assertGreater(counts["long"], 300)

    def test_cells_are_changed_and_kept(self):
        chance, changed = random.Random(14), 0
        for shelf, tree in whole_cases(100, 15):
            thing = Thing(shelf, tree)
            begun = thing.cells()
            for name, worth in calls_of(chance, thing.deeds()):
                outcome(thing, name, worth)
            changed += thing.cells() != begun
        self.assertGreater(changed, 30)

    def test_two_things_between_one_another(self):
        chance = random.Random(16)
        for shelf, tree in whole_cases(100, 17):
            one, other = Thing(shelf, tree), Thing(shelf, tree)
            alone = Thing(shelf, tree)
            for name, worth in calls_of(chance, one.deeds()):
                told = outcome(alone, name, worth)
                self.assertEqual(outcome(one, name, worth), told)
                for otherwise, more in calls_of(chance, one.deeds(), 2):
                    outcome(other, otherwise, more)
                self.assertEqual(one.cells(), alone.cells())

    def test_refused_calls_change_nothing(self):
        chance = random.Random(18)
        for shelf, tree in whole_cases(100, 19):
            one, alone = Thing(shelf, tree), Thing(shelf, tree)
            for name, worth in calls_of(chance, one.deeds()):
                with self.assertRaises(BadCall):
                    one.call(name, chance.choice((1000, "1", (0,) * 9, (True,))))
                with self.assertRaises(BadCall):
                    one.call("i", worth)
                self.assertEqual(outcome(one, name, worth), outcome(alone, name, worth))
                self.assertEqual(one.cells(), alone.cells())


class Flat(unittest.TestCase):
    def test_the_flat_part_is_right_and_tells_the_same(self):
        chance = random.Random(20)
        for shelf, tree in whole_cases(200, 21):
            name = chance.choice("ABCDEF")
            part = flat(shelf, tree, name)
            self.assertIsNone(right(part))
            thing, other = Thing(shelf, tree), Thing([part], of(name))
            self.assertEqual((thing.deeds(), thing.cells()), (other.deeds(), other.cells()))
            for name, worth in calls_of(chance, thing.deeds()):
                self.assertEqual(exact(outcome(thing, name, worth)), exact(outcome(other, name, worth)))
                self.assertEqual(exact(thing.cells()), exact(other.cells()))


class Tried(unittest.TestCase):
    def setUp(self):
        self.counts = {"told": 0, "long": 0, "wrong": 0}

    def compare(self, chance, shelf, tree):
        """Each deed with a worth of any kind, both ways."""
        for name in Second(shelf, tree).rows:
            worth = worth_of(chance, chance.choice(KINDS))
            told = tried(shelf, tree, name, worth)
            self.assertEqual(exact(told), exact(Second(shelf, tree).call(name, worth)))
            self.counts[told[0]] += 1

    def test_right_parts_never_go_wrong(self):
        chance, first = random.Random(22), 0
        for shelf, tree in whole_cases(300, 23):
            for name, takes, _ in Thing(shelf, tree).deeds():
                worth = worth_of(chance, takes)
                told = tried(shelf, tree, name, worth)
                self.assertIn(told[0], ("told", "long"))
                self.assertEqual(exact(told), exact(outcome(Thing(shelf, tree), name, worth)))
                first += 1
        self.assertGreater(first, 500)

    def test_arguments_of_any_kind(self):
        chance = random.Random(24)
        for shelf, tree in whole_cases(300, 25):
            self.compare(chance, shelf, tree)
        self.assertGreater(min(self.counts.values()), 100)

    def test_parts_that_are_not_right(self):
        chance = random.Random(26)
        for _ in range(3000):
            shelf = [part_of(chance, name) for name in "ABC"[:chance.randint(1, 3)]]
            tree = tree_of(chance, shelf, 6)
            clashes, lacks, _, _ = wanting(shelf, tree)
            if clashes or lacks:
                with self.assertRaises(NotWhole):
                    tried(shelf, tree, "a", 0)
            else:
                self.compare(chance, shelf, tree)
        self.assertGreater(min(self.counts.values()), 50)

    def test_parts_whose_asks_and_first_cells_are_gone(self):
        chance = random.Random(28)
        for shelf, tree in whole_cases(300, 29):
            parts = [(name, deeds, (), cells[1:]) for name, deeds, asks, cells in shelf]
            self.compare(chance, parts, tree)
        self.assertGreater(min(self.counts.values()), 50)


class Untouched(unittest.TestCase):
    def test_nothing_that_is_handed_in_is_changed(self):
        chance = random.Random(30)
        for shelf, tree in whole_cases(50, 31):
            before = copy.deepcopy((shelf, tree))
            thing = Thing(shelf, tree)
            for name, worth in calls_of(chance, thing.deeds()):
                outcome(thing, name, worth)
                tried(shelf, tree, name, worth)
            flat(shelf, tree, "A")
            self.assertEqual((shelf, tree), before)

    def test_the_shelf_may_be_changed_later(self):
        chance = random.Random(32)
        for (shelf, tree), (other, _, _, _) in zip(whole_cases(50, 33), cases(50, 34)):
            one, alone = Thing(shelf, tree), Thing(shelf, tree)
            row = calls_of(chance, one.deeds())
            told = [(outcome(alone, name, worth), alone.cells()) for name, worth in row]
            shelf[:] = other
            self.assertEqual([(outcome(one, name, worth), one.cells()) for name, worth in row], told)

    def test_asked_again_the_same_is_told(self):
        for shelf, tree in whole_cases(50, 35):
            self.assertEqual(flat(shelf, tree, "A"), flat(shelf, tree, "A"))
            for name, takes, _ in Thing(shelf, tree).deeds():
                worth = {"number": 1, "truth": True, "list": (1,)}[takes]
                self.assertEqual(tried(shelf, tree, name, worth), tried(shelf, tree, name, worth))
