"""[5] and the interface of kindsgathered/errors.py."""

import unittest

from kindsgathered.errors import GatherError, NoText
from tests.things import CLASSES


class Errors(unittest.TestCase):

    def test_gather_error_stands_under_value_error(self):
        self.assertEqual(GatherError.__bases__, (ValueError,))

    def test_each_class_stands_straight_under_gather_error(self):
        for each in CLASSES:
            self.assertEqual(each.__bases__, (GatherError,), each)

    def test_no_class_stands_under_another_one(self):
        for each in CLASSES:
            for other in CLASSES:
                self.assertEqual(issubclass(each, other), each is other)

    def test_names_and_module(self):
        names = ["NoShares", "NoKind", "NoNumber", "NoNeeds", "NoPlan", "TooMany", "NoLine", "NoText"]
        self.assertEqual([each.__name__ for each in CLASSES], names)
        for each in CLASSES + (GatherError,):
            self.assertEqual(each.__module__, "kindsgathered.errors")

    def test_made_of_a_text(self):
        for each in CLASSES:
            if each is not NoText:
                self.assertEqual(str(each("why not")), "why not")

    def test_no_text_keeps_at(self):
        for at in (0, 1, 5, 59):
            error = NoText(at)
            self.assertEqual(error.at, at)
            self.assertEqual(vars(error), {"at": at})

    def test_caught_as_what_they_stand_under(self):
        for each in CLASSES:
            for wider in (each, GatherError, ValueError):
                with self.assertRaises(wider):
                    raise each(3) if each is NoText else each("x")


if __name__ == "__main__":
    unittest.main()
