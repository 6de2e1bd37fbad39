import copy
import unittest

from samples import (
    DATA, OTHERS, SCHEME, WIDE, dice, misshapen, random_change, random_database, random_scheme, replaced_by_others, same)
from watchzones.databases import carried_out, is_change, is_database, made_plain

LIMIT = 4 * 10 ** 6
FULL = (
    ((0, 0, 1), (1, -1, 0), (2, 2, 1), (3, 1, 0)),
    ((1,), (4,)),
    ((0, 0, 1, -1), (2, 2, 2, 2)),
    ((0, 1, 0, 1), (0, 1, 0, 4), (5, 0, 0, 4)),
)
# Keys of two columns, one that refers twice, in another order.
CROSSED = ((((0, 3), (0, 3)), (0, 1), ()), (((0, 3), (0, 3), (0, 3)), (0,), (((1, 0), 0), ((1, 2), 0))))


def with_rows(*rows):
    return (rows, ())


class TestIsDatabase(unittest.TestCase):
    def test_examples(self):
        self.assertIs(is_database(SCHEME, DATA), True)
        self.assertIs(is_database(SCHEME, ((), ((5, 3, 600),))), False)

    def test_empty_tables_and_number_of_tables(self):
        self.assertIs(is_database(SCHEME, ((), ())), True)
        for value in ((), ((),), ((), (), ()), [(), ()], ([], ()), ((), [])):
            self.assertIs(is_database(SCHEME, value), False)

    def test_rows_in_another_order_or_twice(self):
        self.assertIs(is_database(SCHEME, with_rows((1, 1), (2, 0), (3, 0))), True)
        for rows in (((2, 0), (1, 1)), ((1, 1), (3, 0), (2, 0)), ((1, 1), (1, 1)), ((1, 1), (2, 0), (2, 0))):
            self.assertIs(is_database(SCHEME, with_rows(*rows)), False, rows)

    def test_two_rows_with_one_key(self):
        self.assertIs(is_database(SCHEME, with_rows((1, 0), (1, 1))), False)
        pairs = ((((0, 9), (0, 9), (0, 9)), (0, 2), ()),)
        self.assertIs(is_database(pairs, (((1, 1, 1), (1, 1, 2), (1, 2, 0)),)), True)
        self.assertIs(is_database(pairs, (((1, 1, 1), (1, 2, 1)),)), False)
        second = ((((0, 9), (0, 9)), (1,), ()),)
        self.assertIs(is_database(second, (((1, 1), (1, 2), (2, 3)),)), True)
        self.assertIs(is_database(second, (((1, 1), (2, 2), (3, 1)),)), False)

    def test_thirty_rows_and_thirty_one(self):
        for many, expected in ((29, True), (30, True), (31, False)):
            rows = tuple((n, 0) for n in range(many))
            self.assertIs(is_database(SCHEME, (rows, ())), expected)
            self.assertIs(is_database(SCHEME, (((3, 0),), tuple((n, 3, 0) for n in range(many)))), expected)

    def test_bounds(self):
        for row, expected in (((0, 0), True), ((99, 9), True), ((-1, 0), False), ((100, 0), False), ((0, 10), False)):
            self.assertIs(is_database(SCHEME, with_rows(row)), expected)

    def test_rows_of_other_lengths_and_kinds(self):
        for row in ((), (1,), (1, 2, 3), [1, 2], (True, 2), (1, False), (None, 1), ("a", 1), ((1,), 2), None, 1, "ab"):
            self.assertIs(is_database(SCHEME, with_rows(row)), False, row)

    def test_rows_to_which_others_refer_taken_out(self):
        self.assertIs(is_database(WIDE, FULL), False)
        full = (((0, 0, 1), (1, -1, 0), (1, 0, 0), (2, 2, 1)), ((1,), (4,)), ((0, 0, 2, 2), (2, 2, 1, 0)),
                ((0, 1, 0, 1), (0, 1, 0, 4), (5, 0, 0, 4)))
        self.assertIs(is_database(WIDE, full), True)
        for table, row, expected in ((0, 0, False), (0, 1, True), (0, 2, False), (0, 3, False), (1, 0, False),
                                     (1, 1, False), (2, 0, True), (3, 2, True)):
            rows = full[table][:row] + full[table][row + 1:]
            self.assertIs(is_database(WIDE, full[:table] + (rows,) + full[table + 1:]), expected, (table, row))

    def test_columns_of_a_reference_belong_to_the_key_in_their_order(self):
        self.assertIs(is_database(CROSSED, (((1, 0), (1, 2)), ((0, 1, 2),))), True)
        self.assertIs(is_database(CROSSED, (((0, 1), (1, 2)), ((0, 1, 2),))), False)
        self.assertIs(is_database(CROSSED, (((1, 0), (2, 1)), ((0, 1, 2),))), False)

    def test_truths_lists_and_any_value(self):
        for value in misshapen(DATA):
            self.assertIs(is_database(SCHEME, value), False, value)
        for value in misshapen((((0, 1), (1, 0)), ((0, 1, 0),))):
            self.assertIs(is_database(SCHEME, value), False, value)
        for value in OTHERS:
            self.assertIs(is_database(SCHEME, value), False, value)
        for value in replaced_by_others(DATA):
            self.assertIn(is_database(SCHEME, value), (True, False))

    def test_random_databases(self):
        for seed in range(200):
            scheme = random_scheme(dice(seed))
            self.assertIs(is_database(scheme, random_database(dice(seed), scheme)), True)


class TestIsChange(unittest.TestCase):
    def right(self, *changes):
        for change in changes:
            self.assertIs(is_change(SCHEME, change), True, change)

    def wrong(self, *changes):
        for change in changes:
            self.assertIs(is_change(SCHEME, change), False, change)

    def test_example_and_ordinary_changes(self):
        self.right(("insert", 0, ("a", 7), ()), ("insert", 0, (1, 7), ()), ("delete", 0, (99,), ()),
                   ("delete", 1, ("d",), ()), ("insert", 1, ("d", "b", "c"), ()), ("insert", 1, ("a", "a", "a"), ()))
        self.assertIs(is_change(WIDE, ("delete", 0, ("b", -2), ())), True)
        self.assertIs(is_change(WIDE, ("delete", 3, (9, 4), ())), True)

    def test_words_and_tables(self):
        self.wrong(("update", 0, (1,), ()), ("update", 0, (1, 7), ()), ("", 0, ("a",), ()), (None, 0, (1,), ()), ("Insert", 0, (1, 7), ()), ("", 0, (1, 7), ()), (0, 0, (1, 7), ()),
                   (("insert",), 0, (1, 7), ()), (None, 0, (1, 7), ()), ("insert", 2, (1, 7), ()),
                   ("insert", -1, (1, 2, 3), ()), ("insert", False, (1, 7), ()), ("insert", "0", (1, 7), ()))

    def test_bounds_are_those_of_the_columns_where_values_stand(self):
        self.right(("insert", 0, (99, 9), ()), ("insert", 0, (0, 0), ()), ("delete", 1, (999,), ()))
        self.wrong(("insert", 0, (100, 9), ()), ("insert", 0, (99, 10), ()), ("insert", 0, (-1, 0), ()),
                   ("delete", 1, (1000,), ()), ("delete", 0, (-1,), ()))
        for values, expected in (((9, 1), True), ((9, 4), True), ((9, 0), False), ((9, 5), False), ((10, 4), False)):
            self.assertIs(is_change(WIDE, ("delete", 3, values, ())), expected)

    def test_number_of_values(self):
        self.wrong(("insert", 0, (1,), ()), ("insert", 0, (1, 2, 3), ()), ("insert", 0, (), ()),
                   ("delete", 0, (1, 2), ()), ("delete", 0, (), ()), ("insert", 1, (1, 2), ()))

    def test_values_of_other_kinds(self):
        for value in ("e", "", "aa", "A", None, True, False, ("a",), ["a"], (1,), {"a": 1}, "b "):
            self.wrong(("insert", 0, (value, 7), ()), ("delete", 0, (value,), ()))

    def test_conditions(self):
        for condition in (("a", None, 5), (None, "a", -5), ("a", "b", 0), ("b", "a", LIMIT), ("a", "b", -LIMIT)):
            self.right(("insert", 0, ("a", "b"), (condition,)))
        for condition in (("a", "a", 5), (None, None, 5), ("a", "c", 0), ("c", None, 0), ("e", None, 0),
                          ("a", "b", LIMIT + 1), ("a", "b", -LIMIT - 1), ("a", "b", True), ("a", "b", None),
                          ("a", "b", "a"), ("a", 0, 1), (0, "a", 1), (20, None, 1), ("a", False, 1), ("a", "b"),
                          ("a", "b", 1, 1), ["a", "b", 1], (), None, "ab1", (["a"], "b", 1), ("a", (), 1)):
            self.wrong(("insert", 0, ("a", "b"), (condition,)),
                       ("insert", 0, ("a", "b"), (("a", None, 5), condition)))
        self.wrong(("insert", 0, (1, 2), (("a", None, 5),)), ("insert", 0, ("b", 2), (("a", None, 5),)))

    def test_six_conditions_and_seven(self):
        self.right(("delete", 0, ("a",), (("a", None, 5),) * 6))
        self.wrong(("delete", 0, ("a",), (("a", None, 5),) * 7))

    def test_truths_lists_and_any_value(self):
        change = ("insert", 1, ("a", 1, "b"), (("a", "b", 0), (None, "b", 1)))
        self.right(change)
        self.wrong(*misshapen(change), *OTHERS)
        self.wrong(change[:3], (*change, ()), change[:3] + (None,), change[:3] + ([],))
        for value in replaced_by_others(change):
            self.assertIn(is_change(SCHEME, value), (True, False))


class TestMadePlain(unittest.TestCase):
    def test_example(self):
        self.assertIs(made_plain(SCHEME, ("insert", 0, ("a", 7), (("a", None, 50),)), (51,)), None)

    def test_parameters_in_ascending_order(self):
        change = ("insert", 1, ("c", "a", 600), ())
        self.assertEqual(made_plain(SCHEME, change, (3, 5)), ("insert", 1, (5, 3, 600), ()))
        self.assertIs(made_plain(SCHEME, change, (500, 3)), None)
        self.assertEqual(made_plain(SCHEME, ("insert", 1, ("d", "b", "c"), ()), (1, 2, 3)), ("insert", 1, (3, 1, 2), ()))

    def test_a_parameter_in_several_places_meets_all_their_bounds(self):
        change = ("insert", 1, ("a", "a", "a"), ())
        self.assertEqual(made_plain(SCHEME, change, (99,)), ("insert", 1, (99, 99, 99), ()))
        self.assertIs(made_plain(SCHEME, change, (100,)), None)
        self.assertEqual(made_plain(WIDE, ("insert", 0, ("a", "a", "a"), ()), (0,)), ("insert", 0, (0, 0, 0), ()))
        for value in (-1, 2):
            self.assertIs(made_plain(WIDE, ("insert", 0, ("a", "a", "a"), ()), (value,)), None)

    def test_bounds_just_so_and_missed_by_one(self):
        for value, expected in ((0, True), (99, True), (-1, False), (100, False)):
            made = made_plain(SCHEME, ("delete", 0, ("a",), ()), (value,))
            self.assertEqual(made, ("delete", 0, (value,), ()) if expected else None)
        for value, expected in ((1, True), (4, True), (0, False), (5, False)):
            made = made_plain(WIDE, ("delete", 3, (0, "a"), ()), (value,))
            self.assertEqual(made, ("delete", 3, (0, value), ()) if expected else None)

    def test_conditions_just_so_and_missed_by_one(self):
        change = ("insert", 1, ("a", "b", 0), (("a", "b", 3), (None, "b", -4), ("a", None, 8)))
        self.assertEqual(made_plain(SCHEME, change, (7, 4)), ("insert", 1, (7, 4, 0), ()))
        self.assertEqual(made_plain(SCHEME, change, (8, 5)), ("insert", 1, (8, 5, 0), ()))
        for values in ((8, 4), (6, 3), (9, 6)):
            self.assertIs(made_plain(SCHEME, change, values), None, values)

    def test_plain_changes(self):
        for change in (("insert", 0, (1, 7), ()), ("delete", 0, (1,), ())):
            self.assertEqual(made_plain(SCHEME, change, ()), change)
            for values in ((1,), (1, 7), [], None, 0):
                self.assertIs(made_plain(SCHEME, change, values), None)

    def test_other_kinds_and_lengths(self):
        change = ("insert", 0, ("a", "b"), ())
        self.assertEqual(made_plain(SCHEME, change, (1, 0)), ("insert", 0, (1, 0), ()))
        wrong = [(), (1,), (1, 0, 0), [1, 0], (True, 0), (1, False), ("a", "b"), (None, 0), (1, None), ((1,), 0), {0: 1, 1: 0}]
        for values in [*wrong, *[other for other in OTHERS if not same(other, (0, 1))]]:
            self.assertIs(made_plain(SCHEME, change, values), None, values)


class TestCarriedOut(unittest.TestCase):
    def test_examples(self):
        self.assertEqual(carried_out(SCHEME, DATA, ("delete", 0, (3,), ())), (DATA, ("referred", 1, (5, 3, 600))))
        self.assertEqual(
            carried_out(SCHEME, DATA, ("insert", 0, (2, 9), ())), ((((2, 9), (3, 5)), ((5, 3, 600),)), None))

    def test_insertions(self):
        self.assertEqual(carried_out(SCHEME, DATA, ("insert", 0, (4, 0), ())), ((((3, 5), (4, 0)), DATA[1]), None))
        self.assertEqual(
            carried_out(SCHEME, DATA, ("insert", 1, (4, 3, 9), ())), ((DATA[0], ((4, 3, 9), (5, 3, 600))), None))
        self.assertEqual(carried_out(SCHEME, ((), ()), ("insert", 0, (0, 0), ())), ((((0, 0),), ()), None))

    def test_deletions(self):
        self.assertEqual(carried_out(SCHEME, DATA, ("delete", 1, (5,), ())), ((DATA[0], ()), None))
        several = (((1, 1), (2, 2), (3, 3)), ((0, 1, 0), (1, 3, 0)))
        self.assertEqual(carried_out(SCHEME, several, ("delete", 0, (2,), ())), ((((1, 1), (3, 3)), several[1]), None))

    def test_key_with_two_columns(self):
        scheme = ((((0, 9), (0, 9), (0, 9)), (0, 2), ()),)
        database = (((1, 1, 1), (1, 1, 2), (2, 1, 1)),)
        self.assertEqual(carried_out(scheme, database, ("delete", 0, (1, 2), ())), ((((1, 1, 1), (2, 1, 1)),), None))
        self.assertEqual(carried_out(scheme, database, ("delete", 0, (2, 2), ())), (database, ("missing",)))
        self.assertEqual(carried_out(scheme, database, ("insert", 0, (1, 5, 2), ())), (database, ("key", (1, 1, 2))))
        self.assertEqual(
            carried_out(scheme, database, ("insert", 0, (1, 0, 3), ())), ((((1, 0, 3), *database[0]),), None))

    def test_key_comes_ahead_of_references(self):
        self.assertEqual(carried_out(SCHEME, DATA, ("insert", 1, (5, 9, 0), ())), (DATA, ("key", (5, 3, 600))))
        self.assertEqual(carried_out(SCHEME, DATA, ("insert", 1, (5, 3, 600), ())), (DATA, ("key", (5, 3, 600))))

    def test_first_reference_that_is_not_met(self):
        self.assertEqual(carried_out(SCHEME, DATA, ("insert", 1, (6, 9, 0), ())), (DATA, ("reference", 0)))
        database = (((0, 0, 0),), ((1,),), (), ())
        for row, expected in (((0, 0, 0, 1), None), ((0, 0, 1, 1), ("reference", 0)), ((0, 0, 0, 2), ("reference", 1)),
                              ((0, 1, 1, 4), ("reference", 0))):
            found = carried_out(WIDE, database, ("insert", 3, row, ()))
            self.assertEqual(found, ((*database[:3], (row,)), None) if expected is None else (database, expected))

    def test_columns_of_a_reference_belong_to_the_key_in_their_order(self):
        database = (((1, 0), (1, 2)), ())
        self.assertEqual(carried_out(CROSSED, database, ("insert", 1, (0, 1, 2), ()))[1], None)
        self.assertEqual(carried_out(CROSSED, database, ("insert", 1, (1, 0, 2), ()))[1], ("reference", 0))
        self.assertEqual(carried_out(CROSSED, database, ("insert", 1, (0, 1, 3), ()))[1], ("reference", 1))
        behind = (((0, 1), (1, 0), (1, 2)), ((0, 1, 2),))
        self.assertEqual(carried_out(CROSSED, behind, ("delete", 0, (0, 1), ()))[1], None)
        self.assertEqual(carried_out(CROSSED, behind, ("delete", 0, (1, 0), ()))[1], ("referred", 1, (0, 1, 2)))
        self.assertEqual(carried_out(CROSSED, behind, ("delete", 0, (1, 2), ()))[1], ("referred", 1, (0, 1, 2)))

    def test_missing(self):
        self.assertEqual(carried_out(SCHEME, DATA, ("delete", 0, (4,), ())), (DATA, ("missing",)))
        self.assertEqual(carried_out(SCHEME, ((), ()), ("delete", 1, (5,), ())), (((), ()), ("missing",)))

    def test_first_row_that_refers(self):
        several = (((1, 1), (3, 3)), ((0, 1, 9), (1, 3, 0), (2, 3, 0)))
        self.assertEqual(carried_out(SCHEME, several, ("delete", 0, (3,), ())), (several, ("referred", 1, (1, 3, 0))))
        database = (((0, 0, 0), (1, 0, 1)), ((1,),), ((2, 1, 1, 0), (3, 0, 0, 1)), ((0, 0, 0, 1), (1, 1, 0, 1)))
        wide = WIDE[:2] + ((((0, 3), (0, 2), (0, 3), (0, 2)), (0,), (((2, 3), 0),)),) + WIDE[3:]
        for key, table, row in (((0, 0), 3, (0, 0, 0, 1)), ((1, 0), 2, (2, 1, 1, 0))):
            found = carried_out(wide, database, ("delete", 0, key, ()))
            self.assertEqual(found, (database, ("referred", table, row)))
        self.assertEqual(
            carried_out(wide, database, ("delete", 1, (1,), ())), (database, ("referred", 3, (0, 0, 0, 1))))

    def test_second_reference_of_a_row(self):
        scheme = ((((0, 9),), (0,), ()), (((0, 9), (0, 9)), (0,), (((0,), 0), ((1,), 0))))
        database = (((1,), (2,), (3,)), ((1, 2),))
        self.assertEqual(carried_out(scheme, database, ("delete", 0, (2,), ())), (database, ("referred", 1, (1, 2))))
        self.assertEqual(carried_out(scheme, database, ("delete", 0, (1,), ())), (database, ("referred", 1, (1, 2))))
        self.assertEqual(carried_out(scheme, database, ("delete", 0, (3,), ()))[1], None)

    def test_a_row_of_another_table_with_such_numbers_does_not_refer(self):
        scheme = ((((0, 9),), (0,), ()), (((0, 9),), (0,), ()), (((0, 9),), (0,), (((0,), 1),)))
        database = (((1,),), ((1,),), ((1,),))
        self.assertEqual(carried_out(scheme, database, ("delete", 0, (1,), ())), (((), ((1,),), ((1,),)), None))

    def test_results_are_databases_and_arguments_are_as_before(self):
        for seed in range(300):
            scheme = random_scheme(dice(seed))
            database = random_database(dice(seed), scheme)
            change = random_change(dice(seed), scheme, plain=True)
            before = copy.deepcopy((scheme, database, change))
            behind, hindrance = carried_out(scheme, database, change)
            self.assertIs(is_change(scheme, change), True)
            self.assertIs(is_database(scheme, behind), True)
            self.assertEqual(behind == database, hindrance is not None)
            self.assertEqual((scheme, database, change), before)
            self.assertEqual(carried_out(scheme, database, change), (behind, hindrance))
