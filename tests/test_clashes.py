import copy
import itertools
import unittest

import oracle
from samples import (
    OTHERS, SCHEME, WIDE, dice, misshapen, random_change, random_scheme, replaced_by_others, same)
from watchzones.clashes import clash, clash_systems, is_clash, is_peace
from watchzones.databases import is_database, made_plain
from watchzones.systems import solved

# Small enough for all databases to be tried.
TINY = ((((0, 1), (0, 1)), (0, 1), ()), (((0, 2), (0, 1), (0, 1)), (0,), (((2, 1), 0),)))
SINGLE = ((((0, 1), (0, 1)), (0,), ()), (((0, 1), (0, 1), (0, 1)), (0,), (((1,), 0), ((2,), 0))))
BESIDE = ((((0, 1), (0, 1)), (1,), ()), (((0, 1),), (0,), ()), (((0, 1), (0, 1)), (1,), (((0,), 1), ((1,), 0))))
# Keys in the middle and of two columns, and a table that refers to both of them.
MIXED = (
    (((0, 9), (0, 5), (0, 3)), (1,), ()),
    (((0, 9), (0, 8), (0, 7)), (0, 2), ()),
    (((1, 7), (1, 4), (1, 6)), (0,), (((2, 0), 1), ((1,), 0))),
)
TWICE = ((((0, 9), (0, 8)), (0,), ()), (((0, 7), (0, 6), (0, 5)), (0,), (((1,), 0), ((2,), 0))))

PUT = ("insert", 1, (5, 3, 600), ())
TAKE = ("delete", 0, (3,), ())
SHOWN = ((((3, 5),), ()), (), ((), ()), (((3, 5),), ((5, 3, 600),)))
PUTS = [("insert", 0, ("a", 5), ()), ("insert", 0, (3, "b"), ())]
PUTS_SHOWN = ((((2, 2),), ()), (3, 4), (((2, 2), (3, 5)), ()), (((2, 2), (3, 4)), ()))


def bounds_of(scheme, table, first):
    found = []
    for j, (low, high) in enumerate(scheme[table][0]):
        found += [(None, first + j, -low), (first + j, None, high)]
    return found


def equal(x, y):
    return [(x, y, 0), (y, x, 0)]


class TestClashSystems(unittest.TestCase):
    def systems(self, scheme, one, other, values, *further):
        """The systems are the bounds of the rows, these values and conditions, and behind these each of further."""
        common = bounds_of(scheme, one[1], 16) + bounds_of(scheme, other[1], 24) + values
        before = copy.deepcopy((scheme, one, other))
        self.assertEqual(clash_systems(scheme, one, other), [common + some for some in further])
        self.assertEqual((scheme, one, other), before)

    def test_both_insert_into_one_table(self):
        one, other = ("insert", 0, ("a", 5), ()), ("insert", 0, (3, "b"), ())
        self.assertEqual(clash_systems(SCHEME, one, other), [
            [(None, 16, 0), (16, None, 99), (None, 17, 0), (17, None, 9),
             (None, 24, 0), (24, None, 99), (None, 25, 0), (25, None, 9),
             (16, 20, 0), (20, 16, 0), (17, None, 5), (None, 17, -5),
             (24, None, 3), (None, 24, -3), (25, 21, 0), (21, 25, 0),
             (16, 24, 0), (24, 16, 0), last] for last in ((17, 25, -1), (25, 17, -1))])

    def test_both_insert_into_one_table_with_the_key_in_the_middle(self):
        one, other = ("insert", 0, (1, 2, 3), ()), ("insert", 0, (4, 2, 0), ())
        values = [(16, None, 1), (None, 16, -1), (17, None, 2), (None, 17, -2), (18, None, 3), (None, 18, -3),
                  (24, None, 4), (None, 24, -4), (25, None, 2), (None, 25, -2), (26, None, 0), (None, 26, 0)]
        met = equal(17, 25)
        self.systems(MIXED, one, other, values, [*met, (16, 24, -1)], [*met, (24, 16, -1)],
                     [*met, (18, 26, -1)], [*met, (26, 18, -1)])

    def test_both_insert_into_one_table_with_a_key_of_two_columns(self):
        one, other = ("insert", 1, ("a", "a", "b"), ()), ("insert", 1, ("b", "d", "a"), ())
        values = [*equal(16, 20), *equal(17, 20), *equal(18, 21), *equal(24, 21), *equal(25, 23), *equal(26, 20)]
        met = equal(16, 24) + equal(18, 26)
        self.systems(MIXED, one, other, values, [*met, (17, 25, -1)], [*met, (25, 17, -1)])

    def test_both_insert_into_a_table_that_has_only_key_columns(self):
        self.assertEqual(clash_systems(TINY, ("insert", 0, (0, 1), ()), ("insert", 0, ("a", "b"), ())), [])

    def test_one_inserts_and_the_other_one_deletes(self):
        put, take = ("insert", 1, (1, 2, "c"), ()), ("delete", 1, ("c", 4), ())
        self.systems(MIXED, put, take, [
            (16, None, 1), (None, 16, -1), (17, None, 2), (None, 17, -2), (18, 22, 0), (22, 18, 0),
            (24, 22, 0), (22, 24, 0), (26, None, 4), (None, 26, -4)], equal(16, 24) + equal(18, 26))
        self.systems(MIXED, take, put, [
            (16, 22, 0), (22, 16, 0), (18, None, 4), (None, 18, -4),
            (24, None, 1), (None, 24, -1), (25, None, 2), (None, 25, -2), (26, 22, 0), (22, 26, 0)],
            equal(16, 24) + equal(18, 26))

    def test_both_delete_from_one_table(self):
        for take in (("delete", 0, (3,), ()), ("delete", 0, ("a",), ())):
            self.assertEqual(clash_systems(SCHEME, take, ("delete", 0, (3,), ())), [])

    def test_a_table_and_one_that_refers_to_it_once(self):
        # The reference has the columns 2 and 0, for the columns 0 and 2 of the key.
        met = equal(16, 26) + equal(18, 24)
        put, take = ("insert", 1, ("a", "b", 4), ()), ("delete", 1, ("a", 4), ())
        put_values = equal(16, 20) + equal(17, 21) + [(18, None, 4), (None, 18, -4)]
        take_values = equal(16, 20) + [(18, None, 4), (None, 18, -4)]
        own_put, own_take = ("insert", 2, ("d", 1, "a"), ()), ("delete", 2, ("d",), ())
        own_put_values = equal(24, 23) + [(25, None, 1), (None, 25, -1)] + equal(26, 20)
        self.systems(MIXED, put, own_put, put_values + own_put_values, met)
        self.systems(MIXED, take, own_put, take_values + own_put_values, met)
        self.systems(MIXED, take, own_take, take_values + equal(24, 23), met)
        self.systems(MIXED, put, own_take, put_values + equal(24, 23))

    def test_a_table_that_refers_and_the_one_to_which_it_refers(self):
        # Here the row of the first change refers to that of the second one.
        own, target = ("insert", 2, (3, 1, 2), ()), ("delete", 1, (2, 3), ())
        values = [(16, None, 3), (None, 16, -3), (17, None, 1), (None, 17, -1), (18, None, 2), (None, 18, -2),
                  (24, None, 2), (None, 24, -2), (26, None, 3), (None, 26, -3)]
        self.systems(MIXED, own, target, values, equal(18, 24) + equal(16, 26))
        self.systems(MIXED, own, ("delete", 0, (4,), ()), values[:6] + [(25, None, 4), (None, 25, -4)], equal(17, 25))
        self.systems(MIXED, ("delete", 2, (3,), ()), ("delete", 0, (4,), ()), [
            (16, None, 3), (None, 16, -3), (25, None, 4), (None, 25, -4)], equal(17, 25))

    def test_a_table_that_refers_twice(self):
        put, take = ("insert", 1, (1, 2, 3), ()), ("delete", 0, ("a",), (("a", None, 3), (None, "a", -1)))
        values = [(16, None, 1), (None, 16, -1), (17, None, 2), (None, 17, -2), (18, None, 3), (None, 18, -3)]
        self.systems(TWICE, put, take, values + equal(24, 20) + [(20, None, 3), (None, 20, -1)],
                     equal(17, 24), equal(18, 24))
        values = [(x and x + 8, y and y + 8, c) for x, y, c in values]
        self.systems(TWICE, take, put, equal(16, 20) + values + [(20, None, 3), (None, 20, -1)],
                     equal(16, 25), equal(16, 26))
        for one, other, many in ((("insert", 0, (1, 1), ()), put, 2), (put, ("insert", 0, (1, 1), ()), 2),
                                 (("delete", 0, (1,), ()), ("delete", 1, (1,), ()), 2),
                                 (("delete", 1, (1,), ()), ("delete", 0, (1,), ()), 2),
                                 (("insert", 0, (1, 1), ()), ("delete", 1, (1,), ()), 0),
                                 (("delete", 1, (1,), ()), ("insert", 0, (1, 1), ()), 0)):
            self.assertEqual(len(clash_systems(TWICE, one, other)), many)

    def test_changes_that_have_nothing_to_do_with_each_other(self):
        for one, other in itertools.permutations((("insert", 0, (0, 0, 0), ()), ("insert", 1, (1,), ())), 2):
            self.assertEqual(clash_systems(WIDE, one, other), [])
        # Tables that refer to one table.
        for one, other in itertools.permutations((("insert", 2, (0, 0, 1, 1), ()), ("insert", 3, (0, 0, 1, 1), ())), 2):
            self.assertEqual(clash_systems(WIDE, one, other), [])
        self.assertEqual(clash_systems(WIDE, ("delete", 2, (0,), ()), ("delete", 3, (0, 1), ())), [])
        self.assertEqual(clash_systems(WIDE, ("delete", 2, (0,), ()), ("delete", 1, (0,), ())), [])

    def test_conditions_of_the_first_and_then_of_the_second(self):
        one = ("insert", 0, ("a", "b"), (("a", "b", 3), (None, "b", -2)))
        other = ("delete", 0, ("a",), (("a", None, 7),))
        self.systems(SCHEME, one, other, [*equal(16, 20), *equal(17, 21), *equal(24, 20), (20, 21, 3), (None, 21, -2),
                                          (20, None, 7)], equal(16, 24))
        self.systems(SCHEME, other, one, [*equal(16, 20), *equal(24, 20), *equal(25, 21), (20, None, 7), (20, 21, 3),
                                          (None, 21, -2)], equal(16, 24))

    def test_bounds_below_zero(self):
        found = clash_systems(WIDE, ("insert", 0, (1, -2, "a"), ()), ("delete", 0, (1, -2), ()))
        self.assertEqual(len(found), 1)
        self.assertEqual(found[0][2:4], [(None, 17, 2), (17, None, 2)])
        self.assertIn((None, 17, 2), found[0][12:])

    def test_new_lists(self):
        for one, other in (PUTS, (TAKE, PUT)):
            first = clash_systems(SCHEME, one, other)
            kept = copy.deepcopy(first)
            for system in first:
                system.append(None)
            self.assertEqual(len({id(system) for system in first}), len(first))
            first.clear()
            self.assertEqual(clash_systems(SCHEME, one, other), kept)


class Clashes(unittest.TestCase):
    """What clash returns is right by carrying both changes out in both orders, or by adding up cycles."""

    def check_clash(self, scheme, one, other, found):
        self.assertIs(is_clash(scheme, one, other, found), True)
        database, values, first, second = found
        for tables in (database, first, second):
            self.assertIs(is_database(scheme, tables), True)
        self.assertLessEqual(max(len(database[one[1]]), len(database[other[1]])), 29)
        names = sorted({value for value in one[2] + other[2] if isinstance(value, str)})
        self.assertEqual([type(value) for value in values], [int] * len(names))
        known = dict(zip(names, values))
        plain = [made_plain(scheme, change, tuple(known[name] for name in names if name in change[2]))
                 for change in (one, other)]
        self.assertNotIn(None, plain)
        self.assertEqual(oracle.in_order(scheme, database, plain), first)
        self.assertEqual(oracle.in_order(scheme, database, plain[::-1]), second)
        self.assertNotEqual(first, second)

    def check_peace(self, scheme, one, other, found):
        self.assertIs(is_peace(scheme, one, other, found), True)
        systems = clash_systems(scheme, one, other)
        self.assertEqual(len(found), len(systems))
        for system, cycle in zip(systems, found):
            constraints = [system[i] for i in cycle]
            fronts = [x for x, _, _ in constraints]
            self.assertEqual(fronts[1:] + fronts[:1], [y for _, y, _ in constraints])
            self.assertLess(sum(c for _, _, c in constraints), 0)

    def checked(self, scheme, one, other):
        before = copy.deepcopy((scheme, one, other))
        word, found = clash(scheme, one, other)
        self.assertIn(word, ("clash", "none"))
        check = self.check_clash if word == "clash" else self.check_peace
        check(scheme, one, other, found)
        self.assertEqual((scheme, one, other), before)
        self.assertTrue(same(clash(scheme, one, other), (word, found)))
        return word


class TestClash(Clashes):
    def clashes(self, scheme, *told):
        for one, other, word in told:
            self.assertEqual(self.checked(scheme, one, other), word, (one, other))
            self.assertEqual(self.checked(scheme, other, one), word, (other, one))

    def test_examples(self):
        put = ("insert", 0, (3, 5), ())
        self.assertEqual(clash(SCHEME, put, ("insert", 1, (5, "a", 600), ()))[0], "clash")
        self.assertEqual(clash(SCHEME, put, ("delete", 1, (5,), ())), ("none", []))

    def test_both_insert_into_one_table(self):
        self.clashes(SCHEME, (("insert", 0, (3, 5), ()), ("insert", 0, (3, 6), ()), "clash"),
                     (("insert", 0, (3, 5), ()), ("insert", 0, (3, 5), ()), "none"),
                     (("insert", 0, (3, 5), ()), ("insert", 0, (4, 6), ()), "none"),
                     (("insert", 0, (3, "a"), ()), ("insert", 0, (3, "a"), ()), "none"),
                     (("insert", 0, (3, "a"), ()), ("insert", 0, (3, "b"), ()), "clash"),
                     (("insert", 0, ("a", "b"), (("a", "b", -1),)), ("insert", 0, ("b", "a"), ()), "none"),
                     (("insert", 0, ("a", "b"), (("b", None, 3),)), ("insert", 0, (4, 4), ()), "clash"),
                     (("insert", 0, (3, "a"), (("a", None, 3),)), ("insert", 0, (3, 3), ()), "clash"),
                     (("insert", 0, (3, "a"), (("a", None, 3), (None, "a", -3))), ("insert", 0, (3, 3), ()), "none"))

    def test_both_insert_rows_that_refer_to_different_rows(self):
        # Each row needs what it refers to, though both have one key.
        self.clashes(TWICE, (("insert", 1, (1, 2, 3), ()), ("insert", 1, (1, 4, 5), ()), "clash"),
                     (("insert", 1, (1, 2, 3), ()), ("insert", 1, (1, 3, 2), ()), "clash"),
                     (("insert", 1, (1, 2, 2), ()), ("insert", 1, (1, 2, 2), ()), "none"))
        self.clashes(MIXED, (("insert", 2, (1, 2, 3), ()), ("insert", 2, (1, 4, 5), ()), "clash"))

    def test_one_inserts_and_the_other_one_deletes(self):
        self.clashes(SCHEME, (("insert", 0, (3, 5), ()), ("delete", 0, (3,), ()), "clash"),
                     (("insert", 0, (3, 5), ()), ("delete", 0, (4,), ()), "none"),
                     (("insert", 1, ("a", 2, "a"), ()), ("delete", 1, ("b",), (("b", None, 7),)), "clash"),
                     (("insert", 1, ("a", 2, "a"), ((None, "a", -8),)), ("delete", 1, ("b",), (("b", None, 7),)), "none"))

    def test_tables_with_references(self):
        put, take = ("insert", 1, (5, 3, 600), ()), ("delete", 1, (5,), ())
        self.clashes(SCHEME, (put, ("insert", 0, (3, 5), ()), "clash"), (put, ("insert", 0, (4, 5), ()), "none"),
                     (put, ("delete", 0, (3,), ()), "clash"), (put, ("delete", 0, (4,), ()), "none"),
                     (take, ("delete", 0, (4,), ()), "clash"), (take, ("delete", 0, ("a",), ()), "clash"),
                     (take, ("insert", 0, ("a", "b"), ()), "none"), (take, ("delete", 1, (5,), ()), "none"))

    def test_tables_with_two_references(self):
        put = ("insert", 1, (1, 2, 3), ())
        self.clashes(TWICE, (put, ("delete", 0, (2,), ()), "clash"), (put, ("delete", 0, (3,), ()), "clash"),
                     (put, ("delete", 0, (4,), ()), "none"), (put, ("insert", 0, (3, 8), ()), "clash"),
                     (("insert", 1, (1, 2, 2), ()), ("insert", 0, (2, 8), ()), "clash"),
                     (("delete", 1, (1,), ()), ("delete", 0, (2,), ()), "clash"),
                     (("delete", 1, (1,), ()), ("delete", 0, (7,), ()), "none"),
                     (("insert", 1, (1, "a", "b"), (("a", "b", -1),)), ("insert", 0, ("b", 8), ()), "clash"),
                     (("insert", 1, (1, "a", 0), ()), ("insert", 0, ("b", "a"), (("b", None, 5), (None, "b", -5))), "clash"),
                     (("insert", 1, (1, "a", "a"), ()), ("delete", 0, ("b",), ((None, "b", -6),)), "none"))

    def test_the_other_table_to_which_a_row_refers(self):
        # What the row refers to besides the changed row has to be there.
        self.clashes(MIXED, (("insert", 2, (3, 1, 2), ()), ("insert", 1, (2, 0, 3), ()), "clash"),
                     (("insert", 2, (3, 1, 2), ()), ("insert", 0, (9, 1, 0), ()), "clash"),
                     (("insert", 2, (3, 1, 2), ()), ("delete", 1, (2, 3), ()), "clash"),
                     (("insert", 2, (3, 1, 2), ()), ("delete", 1, (3, 2), ()), "none"),
                     (("delete", 2, (3,), ()), ("delete", 1, ("a", 3), ()), "clash"),
                     (("delete", 2, (3,), ()), ("delete", 1, ("a", 4), ()), "none"))

    def test_one_parameter_in_both(self):
        one, other = ("insert", 1, ("a", 3, "b"), ()), ("insert", 1, (7, "a", "b"), ())
        word, (database, values, first, second) = clash(SCHEME, one, other)
        self.assertEqual((word, values[0]), ("clash", 7))
        self.clashes(SCHEME, (one, other, "clash"),
                     (("insert", 1, ("a", 3, "b"), ()), ("insert", 1, (3, "a", "b"), ()), "none"),
                     (("delete", 0, ("a",), ()), ("insert", 0, ("a", "a"), (("a", None, 4),)), "clash"),
                     (("delete", 0, ("a",), ((None, "a", -5),)), ("insert", 0, ("a", "a"), (("a", None, 4),)), "none"),
                     (("delete", 0, ("d",), ((None, "d", -10),)), ("insert", 0, ("c", "d"), ()), "none"))

    def test_values_are_in_the_order_of_the_parameters_of_both(self):
        one, other = ("insert", 0, ("c", 4), (("c", None, 8), (None, "c", -8))), ("delete", 0, ("b",), ())
        self.assertEqual(clash(SCHEME, one, other)[1][1], (8, 8))
        one = ("insert", 1, ("d", "a", "b"), (("a", None, 6), (None, "a", -6), ("b", None, 9), (None, "b", -9)))
        self.assertEqual(clash(SCHEME, one, ("delete", 1, (77,), ()))[1][1], (6, 9, 77))
        self.assertEqual(clash(SCHEME, one, ("delete", 0, ("c",), ()))[1][1][:3], (6, 9, 6))

    def test_changes_that_no_values_make_plain(self):
        one = ("insert", 0, ("a", 4), (("a", None, -1),))
        self.clashes(SCHEME, (one, ("delete", 0, ("b",), ()), "none"), (one, ("insert", 1, (1, "b", 2), ()), "none"))

    def against_all_databases(self, scheme, seeds):
        databases = list(oracle.all_databases(scheme))
        words = []
        for seed in seeds:
            chosen = dice(seed)
            one, other = random_change(chosen, scheme), random_change(chosen, scheme)
            word = self.checked(scheme, one, other)
            self.assertEqual(word == "clash", oracle.clashing(scheme, databases, one, other) != set(), (one, other))
            words.append(word)
        self.assertGreater(min(words.count("clash"), words.count("none")), len(words) // 8)

    def test_against_all_databases_with_keys_of_two_columns(self):
        self.against_all_databases(TINY, range(70))

    def test_against_all_databases_with_two_references_to_one_table(self):
        self.against_all_databases(SINGLE, range(150))

    def test_against_all_databases_with_references_to_two_tables(self):
        self.against_all_databases(BESIDE, range(250))

    def test_all_pairs_of_plain_changes_of_very_small_tables(self):
        scheme = ((((0, 1), (0, 1)), (0,), ()), (((0, 1), (0, 1)), (1,), (((0,), 0),)))
        databases = list(oracle.all_databases(scheme))
        changes = [("insert", table, row, ()) for table in (0, 1) for row in oracle.all_rows(scheme[table][0])]
        changes += [("delete", table, (k,), ()) for table in (0, 1) for k in (0, 1)]
        for one, other in itertools.product(changes, repeat=2):
            self.assertEqual(self.checked(scheme, one, other) == "clash",
                             oracle.clashing(scheme, databases, one, other) != set(), (one, other))

    def test_random_schemes(self):
        words = []
        for seed in range(800):
            chosen = dice(seed)
            scheme = random_scheme(chosen, 4, 4)
            words.append(self.checked(scheme, random_change(chosen, scheme), random_change(chosen, scheme)))
        self.assertGreater(min(words.count("clash"), words.count("none")), 50)

    def test_each_system_decides_alone(self):
        # The first system has no solution here, the second one has.
        one, other = ("insert", 0, (3, 5), ()), ("insert", 0, (3, 4), ())
        self.assertEqual([solved(system)[0] for system in clash_systems(SCHEME, one, other)], ["cycle", "solution"])
        self.assertEqual(self.checked(SCHEME, one, other), "clash")

    def test_new_lists(self):
        pair = (("insert", 0, (3, 5), ()), ("insert", 0, (4, 5), ()))
        first = clash(SCHEME, *pair)[1]
        kept = copy.deepcopy(first)
        self.assertEqual(len(kept), 2)
        self.assertEqual(len({id(some) for some in first}), 2)
        for some in first:
            some.append(0)
        first.clear()
        self.assertEqual(clash(SCHEME, *pair)[1], kept)


class TestIsClash(unittest.TestCase):
    def wrong(self, one, other, *values):
        for value in values:
            self.assertIs(is_clash(SCHEME, one, other, value), False, value)

    def right(self, one, other, *values):
        for value in values:
            self.assertIs(is_clash(SCHEME, one, other, value), True, value)

    def test_example(self):
        self.right(TAKE, PUT, SHOWN)
        self.right(*PUTS, PUTS_SHOWN)

    def test_changes_exchanged(self):
        database, values, first, second = SHOWN
        self.wrong(PUT, TAKE, SHOWN)
        self.right(PUT, TAKE, (database, values, second, first))
        self.wrong(TAKE, PUT, (database, values, second, first))

    def test_rows_changed_left_out_and_put_in(self):
        database, values, first, second = SHOWN
        for tables in (((), ()), (((3, 4),), ()), (((2, 5),), ()), (((3, 5), (4, 4)), ()), (((3, 5),), ((5, 3, 600),)),
                       (((3, 5),), ((6, 3, 600),)), (((3, 5),),), (((3, 5),), (), ()), ((), ((5, 3, 600),))):
            self.wrong(TAKE, PUT, (tables, values, first, second))
        for tables in ((((3, 5),), ()), ((), ((5, 3, 600),)), (((3, 5),), ((5, 3, 600),)), (((4, 4),), ()), None):
            self.wrong(TAKE, PUT, (database, values, tables, second))
        for tables in (((), ()), (((3, 5),), ()), (((3, 5),), ((5, 3, 601),)), (((3, 6),), ((5, 3, 600),)), None):
            self.wrong(TAKE, PUT, (database, values, first, tables))
        self.right(TAKE, PUT, ((((3, 5), (4, 4)), ((7, 4, 1),)), (), (((4, 4),), ((7, 4, 1),)),
                               (((3, 5), (4, 4)), ((5, 3, 600), (7, 4, 1)))))

    def test_databases_that_do_not_differ(self):
        self.wrong(TAKE, PUT, (((), ()), (), ((), ()), ((), ())))
        database = (((3, 5),), ((5, 3, 600),))
        self.wrong(TAKE, PUT, (database, (), database, database))
        quiet = ("insert", 0, (4, 4), ())
        self.wrong(TAKE, quiet, ((((3, 5),), ()), (), (((4, 4),), ()), (((4, 4),), ())))

    def test_values(self):
        database, values, first, second = PUTS_SHOWN
        for other in ((), (3,), (4, 3), (3, 5), (2, 4), (3, 4, 5), (3, 10), [3, 4], (3, True), (3, "b"), (3, None), None):
            self.wrong(*PUTS, (database, other, first, second))
        self.right(*PUTS, (database, (3, 6), first, (((2, 2), (3, 6)), ())))

    def test_one_parameter_in_both_has_one_value(self):
        one, other = ("insert", 0, ("a", "b"), (("a", "b", 3),)), ("insert", 0, (7, "a"), ())
        self.right(one, other, (((), ()), (7, 4), (((7, 4),), ()), (((7, 7),), ())))
        self.wrong(one, other, (((), ()), (7, 3), (((7, 3),), ()), (((7, 7),), ())),
                   (((), ()), (7, 4, 7), (((7, 4),), ()), (((7, 7),), ())),
                   (((), ()), (6, 4), (((6, 4), (7, 6)), ()), (((7, 6),), ())))
        self.wrong(one, ("insert", 0, (3, "a"), (("a", None, 6),)), (((), ()), (7, 4), (((7, 4),), ()), (((3, 7),), ())))

    def test_29_rows_and_30_in_each_changed_table(self):
        for many, expected in ((29, True), (30, False)):
            rows = tuple((n, 5) for n in range(many))
            found = ((rows, ()), (), (rows[:3] + rows[4:], ()), (rows, ((5, 3, 600),)))
            self.assertIs(is_clash(SCHEME, TAKE, PUT, found), expected)
            more = tuple((n, 4, 0) for n in range(6, 6 + many))
            found = ((((3, 5), (4, 4)), more), (), (((4, 4),), more), (((3, 5), (4, 4)), ((5, 3, 600), *more)))
            self.assertIs(is_clash(SCHEME, TAKE, PUT, found), expected)
            self.assertIs(is_clash(SCHEME, PUT, TAKE, (*found[:2], found[3], found[2])), expected)
        # The table to which both rows refer is not a changed one.
        rows = tuple((n, 5) for n in range(30))
        found = ((rows, ()), (), (rows, ((5, 3, 600),)), (rows, ((5, 3, 601),)))
        self.assertIs(is_clash(SCHEME, PUT, ("insert", 1, (5, 3, 601), ()), found), True)

    def test_kinds_lengths_and_truths(self):
        self.wrong(TAKE, PUT, *misshapen(SHOWN), SHOWN[:3], (*SHOWN, ()), [*SHOWN], {0: SHOWN})
        self.wrong(*PUTS, *misshapen(PUTS_SHOWN))
        one, other = ("insert", 0, (1, "a"), ()), ("insert", 0, ("b", 0), ())
        found = (((), ()), (1, 1), (((1, 1),), ()), (((1, 0),), ()))
        self.right(one, other, found)
        self.wrong(one, other, *misshapen(found))

    def test_any_value(self):
        self.wrong(TAKE, PUT, *OTHERS)
        for pair, shown in (((TAKE, PUT), SHOWN), (PUTS, PUTS_SHOWN)):
            for value in replaced_by_others(shown):
                self.assertIs(is_clash(SCHEME, *pair, value), False, value)

    def test_arguments_are_as_before(self):
        value = copy.deepcopy([SHOWN, [0, {1: 2}]])
        is_clash(SCHEME, TAKE, PUT, value)
        self.assertEqual(value, [SHOWN, [0, {1: 2}]])


class TestIsPeace(unittest.TestCase):
    def setUp(self):
        self.pair = (("insert", 0, (3, 5), ()), ("insert", 0, ("a", 6), ((None, "a", -4),)))
        self.found = clash(SCHEME, *self.pair)[1]

    def wrong(self, *values):
        for value in values:
            self.assertIs(is_peace(SCHEME, *self.pair, value), False, value)

    def test_what_is_told(self):
        self.assertEqual(len(self.found), 2)
        self.assertIs(is_peace(SCHEME, *self.pair, self.found), True)

    def test_any_cycles(self):
        one, other = self.found
        self.assertIs(is_peace(SCHEME, *self.pair, [one[1:] + one[:1], other * 2]), True)
        system = clash_systems(SCHEME, *self.pair)[1]
        # The last constraint of the second system says that the fives are above the sixes.
        cycle = [system.index(c) for c in ((25, 17, -1), (17, None, 5), (None, 25, -6))]
        self.assertIs(is_peace(SCHEME, *self.pair, [one, cycle]), True)
        self.assertIs(is_peace(SCHEME, *self.pair, [cycle, one]), False)

    def test_cycles_left_out_put_in_exchanged_and_changed(self):
        one, other = self.found
        self.wrong([], [one], [other], [one, other, other], [[], other], [one, []], [one[1:], other], [[*one, one[0]], other],
                   [one, [100]], [one, [-1]], [[True, *one[1:]], other], [tuple(one), other], (one, other), {0: one})
        self.wrong(*misshapen(self.found))

    def test_no_system(self):
        pair = (("insert", 0, (3, 5), ()), ("delete", 1, (5,), ()))
        self.assertIs(is_peace(SCHEME, *pair, []), True)
        for value in (None, (), {}, [[]], [[0]]):
            self.assertIs(is_peace(SCHEME, *pair, value), False)

    def test_changes_that_clash_have_none(self):
        found = clash(SCHEME, ("insert", 0, (3, 5), ()), ("insert", 0, (4, 6), ()))[1]
        self.assertIs(is_peace(SCHEME, ("insert", 0, (3, 5), ()), ("insert", 0, (4, 6), ()), found), True)
        self.assertIs(is_peace(SCHEME, ("insert", 0, (3, 5), ()), ("insert", 0, (3, 6), ()), found), False)

    def test_any_value(self):
        self.wrong(*[value for value in OTHERS])
        for value in replaced_by_others(self.found):
            self.assertIn(is_peace(SCHEME, *self.pair, value), (True, False))

    def test_arguments_are_as_before(self):
        value = copy.deepcopy(self.found)
        is_peace(SCHEME, *self.pair, value)
        self.assertEqual(value, self.found)
