import unittest

from samples import OTHERS, SCHEME, WIDE, dice, misshapen, random_scheme, replaced_by_others
from watchzones.schemes import is_scheme

ONE = (((0, 9),), (0,), ())
PAIR = (((0, 9), (-5, 5)), (0, 1), ())


def with_columns(*columns):
    return ((columns, (0,), ()),)


def with_key(key, many=4):
    return ((((0, 9),) * many, key, ()),)


def with_references(*references):
    """A third table of four columns, behind one with a key of one column and one with a key of two."""
    return (ONE, PAIR, (((0, 9), (1, 8), (-5, 5), (0, 10)), (0,), references))


class TestSchemes(unittest.TestCase):
    def test_examples(self):
        self.assertIs(is_scheme(SCHEME), True)
        self.assertIs(is_scheme(SCHEME[1:]), False)
        self.assertIs(is_scheme(((((0, 9),), (0,), ()),)), True)

    def test_number_of_tables(self):
        self.assertEqual([is_scheme((ONE,) * n) for n in range(7)], [False, True, True, True, True, False, False])

    def test_number_of_columns(self):
        found = [is_scheme(with_columns(*((0, 1),) * n)) for n in range(7)]
        self.assertEqual(found, [False, True, True, True, True, False, False])

    def test_bounds(self):
        for bounds in ((0, 0), (-10 ** 6, 10 ** 6), (10 ** 6, 10 ** 6), (-10 ** 6, -10 ** 6), (-3, -2)):
            self.assertIs(is_scheme(with_columns(bounds)), True, bounds)
        wrong = [(1, 0), (-10 ** 6 - 1, 0), (0, 10 ** 6 + 1), (10 ** 6, 10 ** 6 + 1), (-1, -2), (0,), (0, 1, 2), (),
                 [0, 1], (False, 1), (0, True), (None, 1), (0, None), ("0", "1")]
        for bounds in wrong:
            self.assertIs(is_scheme(with_columns(bounds)), False, bounds)
            self.assertIs(is_scheme(with_columns((0, 9), bounds)), False, bounds)

    def test_keys(self):
        for key in ((0,), (3,), (0, 1), (0, 3), (2, 3)):
            self.assertIs(is_scheme(with_key(key)), True, key)
        for key in ((), (0, 1, 2), (1, 0), (1, 1), (4,), (-1,), (0, 4), (-1, 0), [0], (True,), (0, True), None, 0, ("a",)):
            self.assertIs(is_scheme(with_key(key)), False, key)
        self.assertIs(is_scheme(with_key((1,), 1)), False)

    def test_references(self):
        right = [(), (((0,), 0),), (((1,), 0),), (((0, 2), 1),), (((1, 2), 1),), (((0,), 0), ((0, 2), 1)),
                 (((0,), 0), ((1,), 0)), (((0,), 0), ((0,), 0))]
        for references in right:
            self.assertIs(is_scheme(with_references(*references)), True, references)
        wrong = [((0,), 1), ((0, 2), 0), ((), 0), ((2,), 0), ((3,), 0), ((2, 0), 1), ((0, 0), 1), ((0, 2, 1), 1),
                 ((0,), 2), ((0,), 3), ((0,), -1), ((0,), -3), ((4,), 0), ((-4,), 0), ((0,), True), ((False,), 0),
                 ([0], 0), [(0,), 0], ((0,),), ((0,), 0, 0), ((0,), None), (None, 0), (0, 0), None, 0, (), "ab"]
        for reference in wrong:
            self.assertIs(is_scheme(with_references(reference)), False, reference)
            self.assertIs(is_scheme(with_references(((0,), 0), reference)), False, reference)

    def test_three_references(self):
        self.assertIs(is_scheme(with_references(*(((0,), 0),) * 2)), True)
        self.assertIs(is_scheme(with_references(*(((0,), 0),) * 3)), False)

    def test_reference_to_a_table_with_references(self):
        middle = (((0, 9),), (0,), (((0,), 0),))
        self.assertIs(is_scheme((ONE, middle, (((0, 9),), (0,), (((0,), 0),)))), True)
        self.assertIs(is_scheme((ONE, middle, (((0, 9),), (0,), (((0,), 1),)))), False)

    def test_reference_to_itself_and_to_a_later_table(self):
        for number, expected in ((0, True), (1, False), (2, False), (-1, False), (-2, False)):
            self.assertIs(is_scheme((ONE, (((0, 9),), (0,), (((0,), number),)), ONE)), expected)

    def test_columns_of_a_reference_may_descend(self):
        second = (((0, 1), (-5, 5), (0, 9)), (0,), (((2, 1), 0),))
        self.assertIs(is_scheme((PAIR, second)), True)
        self.assertIs(is_scheme((PAIR, second[:2] + ((((1, 2), 0),),))), False)

    def test_bounds_of_a_reference_one_beyond(self):
        for bounds, expected in (((0, 9), True), ((3, 3), True), ((-1, 9), False), ((0, 10), False), ((-1, 10), False)):
            self.assertIs(is_scheme((ONE, ((bounds,), (0,), (((0,), 0),)))), expected, bounds)
            second = (((0, 3), bounds), (0,), (((1, 0), 0),))
            self.assertIs(is_scheme(((((0, 9), (0, 3)), (0, 1), ()), second)), expected, bounds)

    def test_bounds_are_those_of_the_key_and_not_of_the_first_columns(self):
        first = (((0, 0), (5, 9)), (1,), ())
        self.assertIs(is_scheme((first, (((5, 9),), (0,), (((0,), 0),)))), True)
        self.assertIs(is_scheme((first, (((0, 0),), (0,), (((0,), 0),)))), False)

    def test_lengths_and_kinds(self):
        for table in ((), ONE[:2], (*ONE, ()), list(ONE), None, (ONE[0], ONE[1], []), (ONE[0], ONE[1], None)):
            self.assertIs(is_scheme((table,)), False)
        for scheme in (SCHEME, WIDE, with_references(((0, 2), 1), ((1,), 0))):
            self.assertIs(is_scheme(scheme), True)
            for value in misshapen(scheme):
                self.assertIs(is_scheme(value), False, value)

    def test_any_value(self):
        for value in OTHERS:
            self.assertIs(is_scheme(value), False, value)
        for value in replaced_by_others(SCHEME):
            self.assertIn(is_scheme(value), (True, False))

    def test_random_schemes(self):
        for seed in range(200):
            self.assertIs(is_scheme(random_scheme(dice(seed), 4, 4)), True)
