import unittest

from partdeeds.errors import BadCall, BadPart, BadShelf, BadText, BadTree, Long, NotRight, NotWhole, PartError


class Errors(unittest.TestCase):
    def test_each_is_a_refusal_and_a_value_error(self):
        self.assertEqual(PartError.__bases__, (ValueError,))
        for error in (BadPart, BadShelf, BadTree, NotRight, NotWhole, BadCall, Long, BadText):
            self.assertEqual(error.__bases__, (PartError,))
            self.assertEqual(error.__module__, "partdeeds.errors")

    def test_values_are_set_when_created(self):
        self.assertEqual(BadPart("asks").why, "asks")
        self.assertEqual(BadPart(why="asks").why, "asks")
        self.assertEqual(NotRight("A").name, "A")
        self.assertEqual(NotRight(name="A").name, "A")
        self.assertEqual(BadText(3).place, 3)
        self.assertEqual(BadText(place=3).place, 3)

    def test_values_are_each_objects_own(self):
        one, other = BadPart("name"), BadPart("cells")
        self.assertEqual((one.why, other.why), ("name", "cells"))
