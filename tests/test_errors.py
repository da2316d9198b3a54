"""The classes of standup.errors: names, bases, values kept."""

import inspect
import unittest

from standup import errors
from standup.errors import MapError, NoMap, NoSheet, NoText, Parted

PLAIN = ["NoNumber", "NoOne", "NoTie", "NoOther", "NoNames", "NoLand", "NoFrame", "NoThree", "Flat", "NotInside",
         "NoStep"]
KEEPING = ["NoText", "NoMap", "NoSheet", "Parted"]


class Bases(unittest.TestCase):
    def test_map_error_stands_straight_under_value_error(self):
        self.assertEqual(MapError.__bases__, (ValueError,))
        self.assertEqual(MapError.__name__, "MapError")

    def test_each_other_class_stands_straight_under_map_error(self):
        for name in PLAIN + KEEPING:
            with self.subTest(name=name):
                made = getattr(errors, name)
                self.assertEqual(made.__name__, name)
                self.assertEqual(made.__bases__, (MapError,))

    def test_no_other_class_is_there(self):
        there = [name for name, thing in vars(errors).items() if inspect.isclass(thing)]
        self.assertEqual(sorted(there), sorted(["MapError"] + PLAIN + KEEPING))

    def test_each_plain_class_is_raised_and_taken(self):
        for name in PLAIN:
            with self.subTest(name=name):
                made = getattr(errors, name)
                with self.assertRaises(made) as caught:
                    raise made("words")
                self.assertIsInstance(caught.exception, MapError)
                self.assertIsInstance(caught.exception, ValueError)
                self.assertEqual(str(made("words")), "words")


class Values(unittest.TestCase):
    def test_row(self):
        for row in (0, 7, 10 ** 5000):
            self.assertEqual(NoText(row).row, row)

    def test_place(self):
        for place in (0, 59, 10 ** 5000):
            self.assertEqual(NoMap(place).place, place)

    def test_count(self):
        for count in (0, -4, 4):
            self.assertEqual(NoSheet(count).count, count)
        self.assertIsNone(NoSheet(None).count)

    def test_places(self):
        for places in ([], [3], [1, 4], [0, 1, 2]):
            self.assertEqual(Parted(places).places, places)
            self.assertIsInstance(Parted(places).places, list)

    def test_places_are_the_errors_own(self):
        places = [1, 4]
        error = Parted(places)
        places.append(9)
        self.assertEqual(error.places, [1, 4])
        error.places.clear()
        self.assertEqual(places, [1, 4, 9])

    def test_words_are_there_whatever_is_kept(self):
        for error in (NoText(10 ** 5000), NoMap(10 ** 5000), NoSheet(10 ** 5000), Parted([10 ** 5000])):
            self.assertNotEqual(str(error), "")

    def test_each_value_belongs_to_its_object(self):
        first = NoMap(1)
        second = NoMap(2)
        self.assertEqual((first.place, second.place), (1, 2))


if __name__ == "__main__":
    unittest.main()
