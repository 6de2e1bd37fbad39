import copy
import itertools
import unittest

import oracle
from samples import (
    BIG, OTHERS, SCHEME, WIDE, dice, misshapen, random_change, random_database, random_query, random_scheme,
    replaced_by_others)
from watchzones.cases import bare_cases, cases, constraint_of, count_bare, count_cases, reasons
from watchzones.clashes import clash, clash_systems, is_clash, is_peace
from watchzones.decisions import decide, is_counterexample, is_refutation
from watchzones.errors import TooManyCases
from watchzones.facts import find_answer, is_empty, is_spare, needed
from watchzones.guards import guard
from watchzones.repairs import effects
from watchzones.zones import hit, key_zones, zones

# One key column, two key columns, and a table that refers to both, to the second one crosswise.
MIXED = (
    (((0, 9), (0, 5)), (1,), ()),
    (((0, 9), (0, 9), (0, 9)), (0, 2), ()),
    (((0, 9), (1, 4), (0, 3)), (0,), (((2, 0), 1), ((1,), 0))),
)
# Two parts of each of the tables.
SIX = ((0, (0, 1)), (0, (2, 1)), (1, (0, 3, 4)), (2, (0, 1, 5)))
MIXED_QUERY = (SIX, ((0, None, 7), (None, 3, -2), (1, 5, 0)), (0,))
TWO = (((1, (0, 1, 2)), (1, (3, 4, 5)), (2, (6, 7, 8)), (2, (9, 10, 11))), (), ())


def two_columns(parts):
    """A table with a key of two columns, and a query of so many parts of it."""
    return ((((0, 3), (0, 3)), (0, 1), ()),), (tuple((0, (2 * p, 2 * p + 1)) for p in range(parts)), (), ())


def one_column(parts):
    return ((((0, 3),), (0,), ()),), (tuple((0, (p,)) for p in range(parts)), (), ())


class TestCounting(unittest.TestCase):
    def test_examples(self):
        self.assertEqual(count_cases(SCHEME, BIG, 0), 2)
        self.assertEqual(cases(SCHEME, BIG, 0), [((1,), (1,)), ((1,), (2,))])
        self.assertEqual(cases(SCHEME, BIG, 1), [((0,), ())])
        self.assertEqual(bare_cases(SCHEME, BIG), [((), ())])

    def test_numbers_by_the_formula(self):
        self.assertEqual([count_cases(*one_column(n), 0) for n in (1, 2, 3, 4)], [
            1, 2 * 2 + 1, 3 * 3 * 2 ** 2 + 3 * 2 + 1, 4 * 3 ** 3 * 2 ** 3 + 6 * 3 * 2 ** 2 + 4 * 2 + 1])
        self.assertEqual([count_cases(*two_columns(n), 0) for n in (1, 2, 3, 4)], [
            1, 2 * 4 + 1, 3 * 5 * 4 ** 2 + 3 * 4 + 1, 4 * 5 ** 3 * 4 ** 3 + 6 * 5 * 4 ** 2 + 4 * 4 + 1])
        self.assertEqual([count_bare(*one_column(n)) for n in (1, 2, 3, 4)], [1, 3, 27, 729])
        self.assertEqual([count_bare(*two_columns(n)) for n in (1, 2, 3, 4)], [1, 5, 125, 15625])

    def test_references_to_the_changed_table(self):
        # Outside are two parts that refer to it (by four splits each), which may have one row.
        self.assertEqual(count_cases(MIXED, TWO, 1), 2 * 3 * 4 * 4 * 4 + 3 * 4 * 4)
        self.assertEqual(count_cases(MIXED, TWO, 2), 2 * 5 * 2 + 5)
        self.assertEqual(count_cases(MIXED, TWO, 0), 0)
        self.assertEqual(count_bare(MIXED, TWO), 5 * 3)

    def test_two_references_to_the_changed_table(self):
        query = (((0, (0, 1, 2)), (2, (0, 1, 3, 4))), (), ())
        self.assertEqual(count_cases(WIDE, query, 0), 4 * 4)
        self.assertEqual(cases(WIDE, query, 0), [((0,), pair) for pair in itertools.product((1, 2, 3, 4), repeat=2)])
        self.assertEqual(cases(WIDE, query, 2), [((1,), ())])

    def test_a_table_that_no_part_is_of(self):
        for table in (2, 3):
            query = (((0, (0, 1, 2)),), (), ())
            self.assertEqual(count_cases(WIDE, query, table), 0)
            self.assertEqual(cases(WIDE, query, table), [])
            self.assertEqual(zones(WIDE, query, table), [])

    def test_cases_of_two_parts(self):
        self.assertEqual(cases(*one_column(2), 0), [((0,), (1,)), ((0,), (2,)), ((0, 1), ()), ((1,), (1,)), ((1,), (2,))])
        self.assertEqual(cases(*two_columns(2), 0), [
            *[((0,), (n,)) for n in (1, 2, 3, 4)], ((0, 1), ()), *[((1,), (n,)) for n in (1, 2, 3, 4)]])
        self.assertEqual(bare_cases(*two_columns(2)), [((), (n,)) for n in range(5)])

    def test_order_of_the_splits(self):
        # First the pair of parts of the other table, then the part of the changed one, then what refers to it.
        scheme = ((((0, 9), (0, 9)), (0,), ()), (((0, 9), (0, 9), (0, 9)), (0, 1), (((2,), 0),)))
        query = (((0, (0, 1)), (1, (2, 3, 4)), (0, (5, 6)), (1, (7, 8, 9))), (), ())
        self.assertEqual([splits for taken, splits in cases(scheme, query, 0) if taken == (0,)], list(
            itertools.product((0, 1, 2, 3, 4), (1, 2), (1, 2), (1, 2))))
        self.assertEqual([splits for taken, splits in cases(scheme, query, 0) if taken == (0, 2)], list(
            itertools.product((0, 1, 2, 3, 4), (1, 2), (1, 2))))
        self.assertEqual([splits for taken, splits in cases(scheme, query, 1) if taken == (3,)], list(
            itertools.product((0, 1, 2), (1, 2, 3, 4))))
        for place, constraint in ((("apart", 1, 3), (8, 3, -1)), (("row apart", 2), (5, 16, -1)),
                                  (("reference apart", 1, 0), (16, 4, -1)), (("reference apart", 3, 0), (9, 16, -1))):
            self.assertEqual(constraint_of(scheme, query, None, ((0,), (4, 1, 2, 1)), place), constraint)

    def test_ascending_each_once_and_of_the_right_number(self):
        for seed in range(300):
            scheme = random_scheme(dice(seed))
            query = random_query(dice(seed), scheme, 4)
            for table in range(len(scheme)):
                number = count_cases(scheme, query, table)
                if number <= 300:
                    found = cases(scheme, query, table)
                    self.assertEqual(found, sorted(set(found)))
                    self.assertEqual(len(found), number)
            if count_bare(scheme, query) <= 300:
                found = bare_cases(scheme, query)
                self.assertEqual(found, sorted(set(found)))
                self.assertEqual(len(found), count_bare(scheme, query))

    def test_new_lists(self):
        for found in (lambda: cases(SCHEME, BIG, 0), lambda: bare_cases(SCHEME, BIG),
                      lambda: reasons(SCHEME, BIG, None, ((), ()))):
            first = found()
            second = found()
            first.clear()
            self.assertNotEqual(second, [])
            self.assertEqual(found(), second)


class TestTooManyCases(unittest.TestCase):
    def raises(self, number, call, *arguments):
        with self.assertRaises(TooManyCases) as caught:
            call(*arguments)
        self.assertEqual(caught.exception.number, number)

    def test_more_than_300(self):
        scheme, query = one_column(4)
        self.assertEqual(count_cases(scheme, query, 0), 945)
        self.raises(945, cases, scheme, query, 0)
        self.raises(945, decide, scheme, query, ("insert", 0, (0,), ()))
        self.raises(945, decide, scheme, query, ("delete", 0, ("a",), ()))
        self.raises(945, zones, scheme, query, 0)
        self.raises(945, key_zones, scheme, query, 0)
        self.raises(945, hit, scheme, query, 0, (0,))
        for change in (("insert", 0, (0,), ()), ("delete", 0, ("a",), ()), ("delete", 0, ("a",), (("a", None, -1),))):
            self.raises(945, guard, scheme, query, change)
        for value in ([], None, [[]] * 945, *OTHERS):
            self.raises(945, is_refutation, scheme, query, ("insert", 0, (0,), ()), value)

    def test_more_than_300_bare(self):
        scheme, query = one_column(4)
        query = (query[0], ((0, 1, 3), (1, 0, -4)), ())
        self.raises(729, bare_cases, scheme, query)
        self.raises(729, find_answer, scheme, query)
        for i in (0, 1):
            self.raises(729, needed, scheme, query, i)
        for value in ([], None, [[]] * 729, [[("constraint", 0), ("constraint", 1)]] * 729, *OTHERS):
            self.raises(729, is_empty, scheme, query, value)
            self.raises(729, is_spare, scheme, query, 0, value)
        self.raises(15625, bare_cases, *two_columns(4))
        self.raises(15625, find_answer, *two_columns(4))

    def test_the_number_of_cases_is_that_of_the_changed_table(self):
        first = (((0, 3),), (0,), ())
        twice = (((0, 3), (0, 3)), (0, 1), (((0,), 0), ((1,), 0)))
        scheme = (first, twice, twice, first)
        query = (((0, (0,)), (1, (1, 2)), (1, (3, 4)), (2, (5, 6))), (), ())
        self.assertEqual([count_cases(scheme, query, table) for table in range(4)], [320, 9, 5, 0])
        self.raises(320, guard, scheme, query, ("insert", 0, ("a",), ()))
        self.raises(320, guard, scheme, query, ("delete", 0, (1,), ()))
        self.assertEqual(guard(scheme, query, ("insert", 1, (1, 2), ())), [((0,),)])
        self.assertEqual(guard(scheme, query, ("delete", 2, (1, "b"), ())), [((0, 3), (0, 0))])
        self.assertEqual(guard(scheme, query, ("insert", 3, ("b",), ())), [])
        # Here the bare cases are few, though there are many others.
        self.assertEqual([count_bare(scheme, query), find_answer(scheme, query)[0]], [5, "answers"])
        self.assertIs(is_empty(scheme, query, []), False)

    def test_other_functions_raise_nothing(self):
        scheme, query = one_column(4)
        case = ((0,), (0, 0, 0, 1, 1, 1))
        self.assertEqual(count_bare(scheme, query), 729)
        self.assertIn(("row apart", 1), reasons(scheme, query, 0, case))
        self.assertIn(("same", 0, 1, 0, 0), reasons(scheme, query, None, ((), (0,) * 6)))
        self.assertEqual(constraint_of(scheme, query, None, case, ("row apart", 1)), (1, 16, -1))
        change = ("insert", 0, (0,), ())
        self.assertIs(is_counterexample(scheme, query, change, (((),), (), [], [()])), True)
        self.assertIs(is_counterexample(scheme, query, change, None), False)
        self.assertEqual(effects(scheme, query, ((),), change), ([()], []))

    def test_two_changes_have_no_cases(self):
        scheme = ((((0, 3), (0, 3), (0, 3), (0, 3)), (0,), ()), (((0, 3), (0, 3)), (0,), (((0,), 0), ((1,), 0))))
        for one, other in itertools.permutations((
                ("insert", 0, ("a", "b", "c", "d"), ()), ("insert", 0, (1, 2, 3, 0), ()), ("delete", 0, (1,), ()),
                ("insert", 1, ("a", "a"), ()), ("delete", 1, (2,), ())), 2):
            self.assertLessEqual(len(clash_systems(scheme, one, other)), 6)
            self.assertIn(clash(scheme, one, other)[0], ("clash", "none"))
            for value in OTHERS:
                self.assertIs(is_clash(scheme, one, other, value), False)
                self.assertIn(is_peace(scheme, one, other, value), (True, False))

    def test_bare_and_other_cases_count_apart(self):
        scheme, query = one_column(4)
        self.assertEqual(count_cases(scheme, (query[0][:3], (), ()), 0), 43)
        self.assertEqual(len(bare_cases(scheme, (query[0][:3], (), ()))), 27)
        self.assertEqual(len(cases(*two_columns(3), 0)), 253)

    def test_the_numbers_next_to_300(self):
        keys = (((0, 3), (0, 3)), (0, 1), ())
        once = (((0, 3), (0, 3), (0, 3)), (0,), (((0, 1), 0),))
        twice = (((0, 3), (0, 3), (0, 3)), (0,), (((0, 1), 0), ((1, 2), 0)))
        query = (((0, (0, 1)), (1, (2, 3, 4)), (2, (5, 6, 7)), (3, (8, 9, 10))), (), ())
        self.assertEqual(len(cases((keys, once, once, twice), query, 0)), 256)
        first = (((0, 3),), (0,), ())
        twice = (((0, 3), (0, 3)), (0, 1), (((0,), 0), ((1,), 0)))
        query = (((0, (0,)), (1, (1, 2)), (1, (3, 4)), (2, (5, 6))), (), ())
        self.raises(320, cases, (first, twice, twice), query, 0)
        self.assertEqual(len(cases((first, twice, twice), query, 1)), 9)


class TestReasons(unittest.TestCase):
    def check(self, scheme, query, change, case, told):
        for reason, constraint in told.items():
            self.assertEqual(constraint_of(scheme, query, change, case, reason), constraint, reason)

    def test_examples(self):
        self.assertEqual(
            constraint_of(SCHEME, BIG, None, ((1,), (1,)), ("reference apart", 0, 0)), (1, 16, -1))
        change = ("insert", 0, ("a", 7), ())
        self.assertEqual(constraint_of(SCHEME, BIG, change, ((1,), (1,)), ("value", 1, 1)), (None, 17, -7))

    def test_all_of_a_case(self):
        found = {
            ("constraint", 0): (None, 2, -500), ("constraint", 1): (None, 3, -5),
            ("high", 0, 0): (0, None, 999), ("high", 0, 1): (1, None, 99), ("high", 0, 2): (2, None, 1000),
            ("high", 1, 0): (1, None, 99), ("high", 1, 1): (3, None, 9),
            ("low", 0, 0): (None, 0, 0), ("low", 0, 1): (None, 1, 0), ("low", 0, 2): (None, 2, 0),
            ("low", 1, 0): (None, 1, 0), ("low", 1, 1): (None, 3, 0),
            ("reference apart", 0, 0): (16, 1, -1),
            ("row high", 0): (16, None, 99), ("row high", 1): (17, None, 9),
            ("row low", 0): (None, 16, 0), ("row low", 1): (None, 17, 0),
            ("takes", 1, 0, 0): (1, 16, 0), ("takes", 1, 0, 1): (16, 1, 0),
            ("takes", 1, 1, 0): (3, 17, 0), ("takes", 1, 1, 1): (17, 3, 0),
        }
        self.assertEqual(reasons(SCHEME, BIG, 0, ((1,), (2,))), list(found))
        self.check(SCHEME, BIG, None, ((1,), (2,)), found)
        self.assertEqual(reasons(SCHEME, BIG, 0, ((1,), (1,))), list(found))

    def test_all_of_a_bare_case(self):
        scheme, query = two_columns(2)
        query = (query[0], ((3, None, 2),), ())
        known = {
            ("constraint", 0): (3, None, 2),
            ("high", 0, 0): (0, None, 3), ("high", 0, 1): (1, None, 3),
            ("high", 1, 0): (2, None, 3), ("high", 1, 1): (3, None, 3),
            ("low", 0, 0): (None, 0, 0), ("low", 0, 1): (None, 1, 0),
            ("low", 1, 0): (None, 2, 0), ("low", 1, 1): (None, 3, 0),
        }
        same = {("same", 0, 1, 0, 0): (0, 2, 0), ("same", 0, 1, 0, 1): (2, 0, 0),
                ("same", 0, 1, 1, 0): (1, 3, 0), ("same", 0, 1, 1, 1): (3, 1, 0)}
        self.assertEqual(reasons(scheme, query, None, ((), (0,))), list(known) + list(same))
        self.check(scheme, query, None, ((), (0,)), {**known, **same})
        self.assertIs(constraint_of(scheme, query, None, ((), (0,)), ("apart", 0, 1)), None)
        for split, constraint in ((1, (0, 2, -1)), (2, (2, 0, -1)), (3, (1, 3, -1)), (4, (3, 1, -1))):
            self.assertEqual(reasons(scheme, query, None, ((), (split,))), [("apart", 0, 1), *known])
            self.check(scheme, query, None, ((), (split,)), {**known, ("apart", 0, 1): constraint})
            for reason in (*same, ("row low", 0), ("row high", 1), ("takes", 0, 0, 0), ("row apart", 0), ("value", 0, 0)):
                self.assertIs(constraint_of(scheme, query, None, ((), (split,)), reason), None)

    def test_bounds_below_zero(self):
        query = (((0, (4, 5, 4)),), (), ())
        self.check(WIDE, query, None, ((0,), ()), {
            ("low", 0, 1): (None, 5, 2), ("high", 0, 1): (5, None, 2), ("row low", 1): (None, 17, 2),
            ("row high", 1): (17, None, 2), ("low", 0, 2): (None, 4, 0), ("high", 0, 2): (4, None, 1),
            ("takes", 0, 2, 0): (4, 18, 0), ("takes", 0, 2, 1): (18, 4, 0)})

    def test_row_apart(self):
        scheme = MIXED
        query = (((1, (0, 1, 2)), (1, (3, 4, 5))), (), ())
        for split, constraint in ((1, (3, 16, -1)), (2, (16, 3, -1)), (3, (5, 18, -1)), (4, (18, 5, -1))):
            self.check(scheme, query, None, ((0,), (split,)), {("row apart", 1): constraint, ("row apart", 0): None,
                                                               ("takes", 1, 0, 0): None, ("takes", 0, 0, 0): (0, 16, 0)})
        for split, constraint in ((1, (0, 16, -1)), (4, (18, 2, -1))):
            self.check(scheme, query, None, ((1,), (split,)), {("row apart", 0): constraint, ("row apart", 1): None})
        self.check(scheme, query, None, ((0, 1), ()), {("row apart", 0): None, ("row apart", 1): None,
                                                       ("takes", 1, 2, 1): (18, 5, 0), ("same", 0, 1, 0, 0): None})

    def test_reference_apart(self):
        query = (((1, (0, 1, 2)), (2, (3, 4, 5)), (0, (6, 4))), (), ())
        # Columns 2 and 0 belong to columns 0 and 2 of the other table.
        for split, constraint in ((1, (5, 16, -1)), (2, (16, 5, -1)), (3, (3, 18, -1)), (4, (18, 3, -1))):
            self.check(MIXED, query, None, ((0,), (split,)), {
                ("reference apart", 1, 0): constraint, ("reference apart", 1, 1): None, ("row apart", 1): None})
        for split, constraint in ((1, (4, 17, -1)), (2, (17, 4, -1))):
            self.check(MIXED, query, None, ((2,), (split,)), {
                ("reference apart", 1, 1): constraint, ("reference apart", 1, 0): None})
        self.check(MIXED, query, None, ((1,), ()), {("reference apart", 1, 0): None, ("reference apart", 1, 1): None})

    def test_two_references(self):
        query = (((0, (0, 1, 2)), (2, (3, 4, 5, 6))), (), ())
        self.check(WIDE, query, None, ((0,), (1, 4)), {
            ("reference apart", 1, 0): (3, 16, -1), ("reference apart", 1, 1): (17, 6, -1),
            ("reference apart", 1, 2): None, ("reference apart", 0, 0): None})

    def test_splits_of_all_kinds_in_their_order(self):
        query = (((1, (0, 1, 2)), (1, (3, 4, 5)), (2, (6, 7, 8)), (2, (9, 10, 11))), (), ())
        self.check(MIXED, query, None, ((0,), (2, 3, 4, 1)), {
            ("apart", 2, 3): (9, 6, -1), ("row apart", 1): (5, 18, -1), ("reference apart", 2, 0): (18, 6, -1),
            ("reference apart", 3, 0): (11, 16, -1), ("apart", 1, 2): None, ("apart", 0, 1): None,
            ("same", 2, 3, 0, 0): None})
        self.check(MIXED, query, None, ((2,), (1,)), {("apart", 0, 1): (0, 3, -1)})
        self.check(MIXED, query, None, ((0, 1), (0, 1, 1)), {
            ("same", 2, 3, 2, 0): (8, 11, 0), ("same", 2, 3, 2, 1): (11, 8, 0), ("apart", 2, 3): None,
            ("same", 3, 2, 2, 0): None, ("same", 2, 3, 3, 0): None})

    def test_a_variable_in_two_places(self):
        query = (((0, (4, 4)), (0, (5, 4))), ((4, None, 3),), (4,))
        self.check(MIXED, query, None, ((), (1,)), {("apart", 0, 1): (4, 4, -1)})
        self.check(MIXED, query, None, ((), (0,)), {("same", 0, 1, 1, 0): (4, 4, 0), ("same", 0, 1, 0, 1): (5, 4, 0)})

    def test_values(self):
        query = (((1, (0, 1, 2)),), (), ())
        change = ("insert", 1, ("c", 7, "a"), (("c", "a", 5), (None, "c", -3), ("a", None, 2)))
        self.check(MIXED, query, change, ((0,), ()), {
            ("value", 0, 0): (16, 22, 0), ("value", 0, 1): (22, 16, 0), ("value", 1, 0): (17, None, 7),
            ("value", 1, 1): (None, 17, -7), ("value", 2, 0): (18, 20, 0), ("value", 2, 1): (20, 18, 0),
            ("value", 3, 0): None, ("value", -1, 0): None, ("value", 0, 2): None, ("condition", 0): (22, 20, 5),
            ("condition", 1): (None, 22, -3), ("condition", 2): (20, None, 2), ("condition", 3): None})
        self.check(MIXED, query, ("insert", 1, ("b", "d", 0), ()), ((0,), ()), {
            ("value", 0, 0): (16, 21, 0), ("value", 1, 1): (23, 17, 0), ("value", 2, 0): (18, None, 0),
            ("value", 2, 1): (None, 18, 0), ("condition", 0): None})

    def test_values_of_a_deletion_stand_in_the_columns_of_the_key(self):
        query = (((1, (0, 1, 2)),), (), ())
        self.check(MIXED, query, ("delete", 1, (4, "d"), (("d", None, 8),)), ((0,), ()), {
            ("value", 0, 0): (16, None, 4), ("value", 0, 1): (None, 16, -4), ("value", 1, 0): (18, 23, 0),
            ("value", 1, 1): (23, 18, 0), ("value", 2, 0): None, ("condition", 0): (23, None, 8)})
        self.check(MIXED, (((0, (0, 1)),), (), ()), ("delete", 0, (3,), ()), ((0,), ()), {
            ("value", 0, 0): (17, None, 3), ("value", 0, 1): (None, 17, -3), ("value", 1, 0): None})

    def test_without_a_change_there_are_no_values_and_no_conditions(self):
        for reason in (("value", 0, 0), ("value", 0, 1), ("condition", 0)):
            self.assertIs(constraint_of(SCHEME, BIG, None, ((0,), ()), reason), None)
        change = ("insert", 1, ("a", "b", 1), (("a", "b", 0),))
        found = reasons(SCHEME, BIG, 1, ((0,), ()))
        self.assertNotIn("value", [reason[0] for reason in found])
        self.assertNotIn("condition", [reason[0] for reason in found])
        self.assertEqual(constraint_of(SCHEME, BIG, change, ((0,), ()), ("condition", 0)), (20, 21, 0))

    def test_reasons_one_off(self):
        case = ((1,), (1,))
        change = ("insert", 0, ("a", 7), (("a", None, 5),))
        for reason in (("low", 2, 0), ("low", -1, 0), ("low", 0, 3), ("low", 0, -1), ("high", 1, 2), ("high", 2, 0),
                       ("constraint", 2), ("constraint", -1), ("takes", 0, 0, 0), ("takes", 1, 2, 0), ("takes", 1, 0, 2),
                       ("takes", 1, 0, -1), ("takes", 1, -1, 0), ("same", 0, 1, 0, 0), ("apart", 0, 1), ("row apart", 0),
                       ("row apart", 1), ("reference apart", 0, 1), ("reference apart", 1, 0), ("reference apart", 0, -1),
                       ("row low", 2), ("row low", -1), ("row high", 2), ("value", 2, 0), ("value", 0, 2),
                       ("condition", 1), ("condition", -1), ("wanted", 0, 0), ("not", 0), ("broken", 0), ("Low", 0, 0)):
            self.assertIs(constraint_of(SCHEME, BIG, change, case, reason), None, reason)

    def test_reasons_of_other_lengths_and_kinds(self):
        change = ("insert", 0, ("a", 7), (("a", None, 5),))
        case = ((1,), (1,))
        for reason in [*reasons(SCHEME, BIG, 0, case), ("value", 1, 1), ("value", 0, 0), ("condition", 0)]:
            self.assertIsNot(constraint_of(SCHEME, BIG, change, case, reason), None)
            wrong = [reason[:-1], reason[1:], (*reason, 0), (*reason, 1), list(reason), (reason,), reason[0], *misshapen(reason)]
            for value in wrong:
                self.assertIs(constraint_of(SCHEME, BIG, change, case, value), None, value)
            for value in replaced_by_others(reason):
                found = constraint_of(SCHEME, BIG, change, case, value)
                self.assertIs(type(found), type(None) if found is None else tuple)
        for value in OTHERS:
            self.assertIs(constraint_of(SCHEME, BIG, change, case, value), None)

    def test_for_all_cases_all_reasons_and_no_others(self):
        for seed in range(60):
            scheme = random_scheme(dice(seed))
            query = random_query(dice(seed), scheme)
            before = copy.deepcopy((scheme, query))
            for table in range(len(scheme)):
                for case in cases(scheme, query, table):
                    found = reasons(scheme, query, table, case)
                    self.assertEqual(found, sorted(set(found)))
                    for reason in found:
                        x, y, c = constraint_of(scheme, query, None, case, reason)
                        self.assertTrue(all(node is None or 0 <= node < 20 for node in (x, y)))
                        self.assertIs(type(c), int)
            self.assertEqual((scheme, query), before)


class TestWaysAndCases(unittest.TestCase):
    """A way that has the changed row belongs to at least one case, and meets all its constraints."""

    def test_random_ways(self):
        some = 0
        for seed in range(3000):
            chosen = dice(seed)
            scheme = random_scheme(chosen)
            query = random_query(chosen, scheme)
            database = random_database(chosen, scheme)
            change = random_change(chosen, scheme, plain=True)
            for rows, changed in oracle.changed_ways(scheme, query, database, change):
                found = [case for case in cases(scheme, query, change[1])
                         if oracle.has_case(scheme, query, change[1], case, rows, changed)]
                self.assertNotEqual(found, [])
                some += 1
                known = {variable: n for (_, inner), row in zip(query[0], rows) for variable, n in zip(inner, row)}
                known.update({16 + j: n for j, n in enumerate(changed)})
                known[None] = 0
                for case in found[:3]:
                    values = [("value", k, i) for k in range(len(change[2])) for i in (0, 1)]
                    for reason in reasons(scheme, query, change[1], case) + values:
                        x, y, c = constraint_of(scheme, query, change, case, reason)
                        self.assertLessEqual(known[x] - known[y], c)
        self.assertGreater(some, 250)
