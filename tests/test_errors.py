import unittest

from caskyears import errors
from caskyears.anew import built_anew
from caskyears.errors import CaskError
from tests.helper import ODD, Case

NAMES = (
    "InvalidFraction InvalidFill InvalidCellar InvalidTable InvalidDeed InvalidRecipe InvalidRow InvalidYearly "
    "InvalidNumber Unlike NoSolution Unreadable BadCask BadSystem BadAim BadSizes BadStand BadRooms BadDregs "
    "BadRanges BadPours BadStory BadWeather BadRule BadKnowledge BadProducts BadLot BadTold BadGlasses BadSides "
    "BadBook BadLine BadText BadCommand TooMany Nothing NoBlock NotReady"
).split()


class Errors(Case, unittest.TestCase):
    def test_there_are_all_classes(self):
        self.assertEqual(CaskError.__bases__, (ValueError,))
        for name in NAMES:
            with self.subTest(name=name):
                self.assertEqual(getattr(errors, name).__bases__, (CaskError,))
                self.assertEqual(getattr(errors, name).__module__, "caskyears.errors")

    def test_each_stores_the_value_itself(self):
        for name in ["CaskError", *NAMES]:
            for value in [None, 3, "", [1, [2]], ([],), {"a": []}, ODD]:
                with self.subTest(name=name, value=value):
                    self.assertIs(getattr(errors, name)(value).value, value)
                    self.assertIs(getattr(errors, name)(value=value).value, value)

    def test_each_takes_one_argument(self):
        for name in ["CaskError", *NAMES]:
            with self.subTest(name=name):
                self.assertRaises(TypeError, getattr(errors, name))
                self.assertRaises(TypeError, getattr(errors, name), 1, 2)

    def test_each_can_be_caught_as_the_ones_above(self):
        for name in NAMES:
            for above in (CaskError, ValueError):
                with self.subTest(name=name), self.assertRaises(above):
                    raise getattr(errors, name)(1)


class Anew(unittest.TestCase):
    def test_lists_and_tuples_are_built_anew(self):
        inner = [1]
        value = ([inner, (inner, "a")], {"k": inner}, None, True, ODD)
        copied = built_anew(value)
        self.assertEqual(copied, value)
        self.assertIsNot(copied[0], value[0])
        self.assertIsNot(copied[0][0], inner)
        self.assertIsNot(copied[0][1][0], inner)
        self.assertIsNot(copied[0][0], copied[0][1][0])
        self.assertIs(copied[4], ODD)

    def test_a_hundred_deep(self):
        value = []
        for _ in range(99):
            value = [value]
        self.assertEqual(built_anew(value), value)


if __name__ == "__main__":
    unittest.main()
