import copy
import itertools
import unittest

import oracle
from oracle import check_zones
from samples import BIG, SCHEME, WIDE, dice, random_change, random_query, random_scheme
from watchzones.cases import count_cases
from watchzones.databases import made_plain
from watchzones.decisions import decide
from watchzones.guards import guard, passes

TINY = ((((0, 1), (0, 1)), (0, 1), ()), (((0, 2), (0, 1)), (0,), (((1, 1), 0),)))
SINGLE = ((((0, 1), (0, 1)), (0,), ()), (((0, 1), (0, 1), (0, 1)), (0,), (((1,), 0), ((2,), 0))))
LONELY = ((((0, 4),), (0,), ()),)
FOUR = ((((0, 9), (0, 8), (0, 7), (0, 6)), (0, 1), ()),)
WHOLE = (((0, (0, 1, 2, 3)),), (), ())


class TestGuard(unittest.TestCase):
    def guards(self, scheme, query, *told):
        for change, expected in told:
            self.assertEqual(guard(scheme, query, change), expected, change)

    def test_examples(self):
        self.guards(SCHEME, BIG, (("insert", 1, (5, "a", "b"), ()), [((0, -401, 99), (1000, 0, 1000), (0, -500, 0))]),
                    (("delete", 1, (5,), ()), [((0,),)]), (("delete", 0, ("c",), ()), []))

    def test_plain_changes_have_a_zone_of_no_numbers_or_none(self):
        self.guards(SCHEME, BIG, (("insert", 1, (5, 3, 500), ()), [((0,),)]), (("insert", 1, (5, 3, 499), ()), []),
                    (("insert", 0, (3, 9), ()), []), (("delete", 0, (3,), ()), []))
        # Several cases have a solution; their zones are equal.
        query = (((0, (0, 1)), (0, (2, 3))), (), ())
        self.guards(SCHEME, query, (("insert", 0, (3, 5), ()), [((0,),)]), (("delete", 0, (3,), ()), [((0,),)]))

    def test_one_parameter(self):
        self.guards(SCHEME, BIG, (("insert", 1, (5, 3, "a"), ()), [((0, 1000), (-500, 0))]),
                    (("insert", 1, (5, "d", 500), ()), [((0, 99), (0, 0))]),
                    (("insert", 1, (5, "d", 499), ()), []), (("delete", 1, ("b",), ()), [((0, 999), (0, 0))]))

    def test_four_parameters(self):
        query = (WHOLE[0], ((0, 1, 2), (None, 3, -4)), ())
        self.guards(FOUR, query, (("insert", 0, ("a", "b", "c", "d"), ()), [
            ((0, 2, 9, 5, 9), (8, 0, 8, 4, 8), (7, 7, 0, 3, 7), (6, 6, 6, 0, 6), (0, 0, 0, -4, 0))]))

    def test_parameters_are_in_ascending_order_wherever_they_stand(self):
        query = (WHOLE[0], ((0, 1, 2), (None, 3, -4)), ())
        self.guards(FOUR, query, (("insert", 0, ("d", "c", "b", "a"), ()), [
            ((0, 6, 6, 6, 6), (3, 0, 7, 7, 7), (4, 8, 0, 8, 8), (5, 9, 2, 0, 9), (-4, 0, 0, 0, 0))]),
            (("insert", 0, (1, "d", 2, "b"), ()), [((0, 6, 6), (4, 0, 8), (-4, 0, 0))]),
            (("delete", 0, ("c", "b"), ()), [((0, 8, 8), (2, 0, 9), (0, 0, 0))]))

    def test_a_parameter_in_several_places(self):
        self.guards(FOUR, WHOLE, (("insert", 0, ("b", "b", "b", "b"), ()), [((0, 6), (0, 0))]),
                    (("insert", 0, ("b", 3, "a", "b"), ()), [((0, 7, 7), (6, 0, 6), (0, 0, 0))]),
                    (("delete", 0, ("c", "c"), ()), [((0, 8), (0, 0))]))
        query = (WHOLE[0], ((0, 3, -1),), ())
        self.guards(FOUR, query, (("insert", 0, ("b", 0, 0, "b"), ()), []),
                    (("insert", 0, ("b", 0, "b", 5), ()), [((0, 4), (0, 0))]))
        self.guards(WIDE, (((0, (0, 1, 2)),), (), ()), (("insert", 0, ("a", "a", "a"), ()), [((0, 1), (0, 0))]))

    def test_conditions(self):
        values = ("a", "b", 0, 0)
        self.guards(FOUR, WHOLE, (("insert", 0, values, (("a", "b", -2),)), [((0, -2, 6), (8, 0, 8), (0, -2, 0))]),
                    (("insert", 0, values, (("a", None, 3), (None, "b", -8))), [((0, -5, 3), (8, 0, 8), (0, -8, 0))]),
                    (("insert", 0, values, (("a", None, 50),)), [((0, 9, 9), (8, 0, 8), (0, 0, 0))]))

    def test_conditions_that_contradict_each_other_the_bounds_or_the_query(self):
        self.guards(FOUR, WHOLE, (("insert", 0, ("a", "b", 0, 0), (("a", "b", -1), ("b", "a", 0))), []),
                    (("insert", 0, ("a", 0, 0, 0), (("a", None, -1),)), []),
                    (("insert", 0, ("a", 0, 0, 0), (("a", None, 0),)), [((0, 0), (0, 0))]),
                    (("insert", 0, ("a", 0, 0, 0), (("a", None, 3), (None, "a", -4))), []))
        query = (WHOLE[0], ((None, 0, -5),), ())
        self.guards(FOUR, query, (("delete", 0, ("a", 0), (("a", None, 4),)), []),
                    (("delete", 0, ("a", 0), (("a", None, 5),)), [((0, 5), (-5, 0))]))

    def test_several_zones_ascending_and_none_within_another(self):
        # The row takes the lower part or the higher one.
        query = (((0, (0, 1)), (0, (2, 3))), ((0, 2, -4),), (0,))
        self.guards(SCHEME, query, (("insert", 0, ("a", 5), ()), [((0, 95), (0, 0)), ((0, 99), (-4, 0))]),
                    (("delete", 0, ("c",), ()), [((0, 95), (0, 0)), ((0, 99), (-4, 0))]),
                    (("delete", 0, ("c",), (("c", None, 3),)), [((0, 3), (0, 0))]),
                    (("delete", 0, ("c",), ((None, "c", -96),)), [((0, 99), (-96, 0))]))
        query = (((0, (0, 1)), (0, (2, 3))), (), ())
        self.guards(SCHEME, query, (("insert", 0, ("a", "b"), ()), [((0, 99, 99), (9, 0, 9), (0, 0, 0))]))

    def test_a_table_that_no_part_is_of(self):
        query = (((0, (0, 1)),), (), (0,))
        self.guards(SCHEME, query, (("insert", 1, ("a", "b", "c"), ()), []), (("delete", 1, (0,), ()), []))

    def against_deciding_all_values(self, scheme, query, change):
        found = guard(scheme, query, change)
        names = {value for value in change[2] if isinstance(value, str)}
        check_zones(self, found, len(names))
        some = set()
        for values in itertools.product(range(-2, 5), repeat=len(names)):
            plain = made_plain(scheme, change, values)
            can = plain is not None and decide(scheme, query, plain)[0] == "can"
            self.assertIs(passes(found, values), can, (change, values))
            some.add(can)
        return some

    def test_against_deciding_all_values_of_small_schemes(self):
        both = 0
        for seed in range(220):
            chosen = dice(seed)
            scheme = random_scheme(chosen)
            query, change = random_query(chosen, scheme), random_change(chosen, scheme)
            both += len(self.against_deciding_all_values(scheme, query, change)) == 2
        self.assertGreater(both, 30)

    def test_against_all_databases(self):
        some = 0
        for scheme, seeds in ((TINY, range(60)), (SINGLE, range(40)), (LONELY, range(60))):
            databases = list(oracle.all_databases(scheme))
            for seed in seeds:
                chosen = dice(seed)
                query, change = random_query(chosen, scheme, 2), random_change(chosen, scheme)
                if count_cases(scheme, query, change[1]) <= 300:
                    found = guard(scheme, query, change)
                    altering = oracle.altering(scheme, query, databases, change)
                    for values in oracle.all_values(scheme, change):
                        self.assertIs(passes(found, values), values in altering, (seed, values))
                    some += altering != set()
        self.assertGreater(some, 40)

    def test_equal_results_new_lists_and_arguments_as_before(self):
        for change in (("insert", 1, (5, "a", "b"), (("a", "b", 3),)), ("delete", 1, (5,), ()), ("delete", 0, ("c",), ())):
            before = copy.deepcopy((SCHEME, BIG, change))
            first = guard(SCHEME, BIG, change)
            kept = list(first)
            second = guard(*copy.deepcopy((SCHEME, BIG, change)))
            self.assertEqual(second, kept)
            first.append(None)
            self.assertEqual(second, kept)
            self.assertEqual(guard(SCHEME, BIG, change), kept)
            self.assertEqual((SCHEME, BIG, change), before)


class TestPasses(unittest.TestCase):
    def test_on_the_edges_and_one_beyond(self):
        some = guard(SCHEME, BIG, ("insert", 1, (5, "a", "b"), (("b", "a", 600),)))
        for values, expected in (((0, 500), True), ((0, 499), False), ((-1, 500), False), ((0, 600), True),
                                 ((0, 601), False), ((99, 699), True), ((99, 700), False), ((100, 700), False),
                                 ((99, 500), True)):
            self.assertIs(passes(some, values), expected, values)

    def test_one_zone_is_enough(self):
        some = [((0, 3), (-1, 0)), ((0, 9), (-7, 0))]
        found = [values for values in range(12) if passes(some, (values,))]
        self.assertEqual(found, [1, 2, 3, 7, 8, 9])

    def test_no_zone_and_no_parameter(self):
        self.assertIs(passes([], ()), False)
        self.assertIs(passes([], (1,)), False)
        self.assertIs(passes([((0,),)], ()), True)

    def test_zones_are_as_before(self):
        some = [((0, 3), (-1, 0)), ((0, 9), (-7, 0))]
        passes(some, (8,))
        self.assertEqual(some, [((0, 3), (-1, 0)), ((0, 9), (-7, 0))])
