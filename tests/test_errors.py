import unittest

from watchzones import errors
from watchzones.errors import (
    Disagrees, InvalidAnswer, InvalidChange, InvalidQuery, TooManyCases, UnknownMark, UnknownQuery, WatchzonesError)

WITH_NUMBER = [TooManyCases, UnknownQuery, UnknownMark, Disagrees]
WITH_VALUE = [InvalidQuery, InvalidChange, InvalidAnswer]
GIVEN = [None, (), [], 0, 301, -1, True, "insert", [1, [2]], ((1, 2), [3]), {1: [2]}, {"a": {None: ()}}]


class TestErrors(unittest.TestCase):
    def test_each_is_of_the_two_bases_and_of_no_other_class_of_the_package(self):
        own = [kind for kind in vars(errors).values() if isinstance(kind, type)]
        for kind in WITH_NUMBER + WITH_VALUE:
            error = kind(1)
            self.assertEqual([base for base in own if isinstance(error, base)], [
                base for base in own if base in (kind, WatchzonesError)])
            self.assertIsInstance(error, ValueError)
            self.assertEqual(kind.__bases__, (WatchzonesError,))

    def test_the_base_is_a_direct_subclass_of_value_error(self):
        self.assertEqual(WatchzonesError.__bases__, (ValueError,))

    def test_attribute_holds_what_was_given(self):
        for kinds, name in ((WITH_NUMBER, "number"), (WITH_VALUE, "value")):
            for kind in kinds:
                for given in GIVEN:
                    held = getattr(kind(given), name)
                    self.assertEqual(held, given)
                    self.assertIs(type(held), type(given))
                self.assertEqual(list(vars(kind(3))), [name])

    def test_attribute_is_not_changed_with_the_argument(self):
        for kind in WITH_VALUE:
            given = [1, {2: [3]}, ([4],)]
            error = kind(given)
            given[1][2].append(5)
            given[2][0].append(6)
            given.append(7)
            self.assertEqual(error.value, [1, {2: [3]}, ([4],)])

    def test_raised_and_caught_by_name(self):
        for kind in WITH_NUMBER + WITH_VALUE:
            for caught in (kind, WatchzonesError, ValueError):
                with self.assertRaises(caught):
                    raise kind(0)
