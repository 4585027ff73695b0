"""The classes of refusal."""

import copy
import pickle
import unittest

from wholeowners import errors
from wholeowners.errors import (
    NoHolder, NoHouse, NoLoss, NoName, NoShare, NoText, OwnError, TooMany, Twice, Whole,
)

OF_ONE_TEXT = (NoName, Twice, TooMany, NoHolder, NoHouse, NoLoss, NoShare, NoText)


class Classes(unittest.TestCase):

    def test_own_error_stands_straight_under_value_error(self):
        self.assertEqual(OwnError.__bases__, (ValueError,))

    def test_each_refusal_stands_straight_under_own_error(self):
        for kind in OF_ONE_TEXT + (Whole,):
            self.assertEqual(kind.__bases__, (OwnError,), kind)

    def test_the_classes_are_ten_and_bear_their_names(self):
        kinds = OF_ONE_TEXT + (Whole, OwnError)
        self.assertEqual(len(set(kinds)), 10)
        for kind in kinds:
            self.assertIs(getattr(errors, kind.__name__), kind)
            self.assertEqual(kind.__module__, "wholeowners.errors")

    def test_each_but_whole_is_made_of_a_text_or_of_nothing(self):
        for kind in OF_ONE_TEXT + (OwnError,):
            for error in (kind(), kind(""), kind("some words\n")):
                with self.assertRaises(kind) as caught:
                    raise error
                self.assertIs(caught.exception, error)
                self.assertIsInstance(error, OwnError)
                self.assertIsInstance(str(error), str)


class WholeIsMadeOfItsGroup(unittest.TestCase):

    def test_the_group_is_its_field(self):
        for group in ([], ["a"], ["farm", "mill"], ["mill", "farm"]):
            with self.assertRaises(Whole) as caught:
                raise Whole(group)
            self.assertEqual(caught.exception.group, group)
            self.assertIs(type(caught.exception.group), list)
            self.assertIsInstance(str(caught.exception), str)

    def test_the_argument_is_called_group(self):
        self.assertEqual(Whole(group=["a"]).group, ["a"])

    def test_whole_is_not_made_of_nothing(self):
        with self.assertRaises(TypeError):
            Whole()

    def test_the_handed_list_and_the_field_share_nothing(self):
        group = ["farm", "mill"]
        error = Whole(group)
        words = str(error)
        group.append("inn")
        self.assertEqual(error.group, ["farm", "mill"])
        self.assertEqual(str(error), words)
        error.group.append("barn")
        self.assertEqual(group, ["farm", "mill", "inn"])

    def test_two_errors_of_one_list_share_nothing(self):
        group = ["farm"]
        one = Whole(group)
        other = Whole(group)
        one.group.append("inn")
        self.assertEqual(other.group, ["farm"])

    def test_a_copy_has_the_group(self):
        error = Whole(["farm", "mill"])
        for other in (copy.copy(error), copy.deepcopy(error), pickle.loads(pickle.dumps(error))):
            self.assertEqual(other.group, ["farm", "mill"])
            self.assertEqual(str(other), str(error))


if __name__ == "__main__":
    unittest.main()
