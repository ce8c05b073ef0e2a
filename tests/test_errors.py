import unittest

from keeper import errors
from tests.refusals import CLASSES, assert_refused

NAMES = (
    "Great", "NoPlace", "NoStep", "Dry", "NoVariable", "NoName", "NotAll", "NotSome", "NotSame", "Unlike",
    "NoText", "NoWord", "TwiceTold", "NotClosed",
)


class ErrorsTest(unittest.TestCase):
    def test_just_these_classes_are_there(self):
        self.assertEqual(sorted(found.__name__ for found in CLASSES), sorted(NAMES))

    def test_keeper_error_stands_under_value_error(self):
        self.assertEqual(errors.KeeperError.__bases__, (ValueError,))

    def test_each_stands_straight_under_keeper_error(self):
        for found in CLASSES:
            self.assertEqual(found.__bases__, (errors.KeeperError,), found)

    def test_each_is_taken_by_its_own_class_and_those_above_alone(self):
        def refuse(found):
            raise found("words")

        for found in CLASSES:
            assert_refused(self, found, refuse, found)

    def test_each_tells_the_name_of_its_class_in_small_letters(self):
        for found in CLASSES + (errors.KeeperError,):
            self.assertEqual(found("words").small_name(), found.__name__.lower())


if __name__ == "__main__":
    unittest.main()
