import unittest

from watchzones import errors, watchererrors
from watchzones.errors import WatchzonesError
from watchzones.watchererrors import FullTable, Hindered, InvalidOutput, InvalidTruth, NotWatched, TooWide

NAMES = {TooWide: ["query"], InvalidOutput: ["value"], InvalidTruth: ["value"], NotWatched: ["number", "output"],
         FullTable: ["table"], Hindered: ["number", "hindrance"]}
GIVEN = [None, (), [], 0, 301, -1, True, False, "insert", (1, 2), [1, [2]], ((1, 2), [3]), {1: [2]}, {"a": {None: ()}},
         (((0, (0, 1)),), (), ()), ("referred", 1, (5, 3, 600))]


class TestWatcherErrors(unittest.TestCase):
    def test_each_is_of_the_two_bases_and_of_no_other_class_of_the_package(self):
        own = {kind for module in (errors, watchererrors) for kind in vars(module).values() if isinstance(kind, type)}
        self.assertEqual(len(own), 14)
        for kind, names in NAMES.items():
            error = kind(*[1] * len(names))
            self.assertEqual({base for base in own if isinstance(error, base)}, {kind, WatchzonesError})
            self.assertIsInstance(error, ValueError)
            self.assertEqual(kind.__bases__, (WatchzonesError,))
            self.assertEqual(kind.__module__, "watchzones.watchererrors")

    def test_attributes_hold_what_was_given(self):
        for kind, names in NAMES.items():
            for k, given in enumerate(GIVEN):
                arguments = [given, GIVEN[k - 1]][:len(names)]
                error = kind(*arguments)
                self.assertEqual(list(vars(error)), names)
                for name, argument in zip(names, arguments):
                    self.assertEqual(getattr(error, name), argument)
                    self.assertIs(type(getattr(error, name)), type(argument))

    def test_two_attributes_in_their_order(self):
        error = NotWatched(3, (1, 2))
        self.assertEqual((error.number, error.output), (3, (1, 2)))
        error = Hindered(1, ("missing",))
        self.assertEqual((error.number, error.hindrance), (1, ("missing",)))

    def test_attributes_are_not_changed_with_the_arguments(self):
        for kind, names in NAMES.items():
            given = [[1, {2: [3]}, ([4],)] for _ in names]
            error = kind(*given)
            for some in given:
                some[1][2].append(5)
                some[2][0].append(6)
                some.append(7)
            for name in names:
                self.assertEqual(getattr(error, name), [1, {2: [3]}, ([4],)])

    def test_raised_and_caught_by_name(self):
        for kind, names in NAMES.items():
            for caught in (kind, WatchzonesError, ValueError):
                with self.assertRaises(caught):
                    raise kind(*[0] * len(names))
