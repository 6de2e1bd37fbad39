import copy
import unittest

import oracle
from samples import (
    BIG, CROSSED, PAIRS, SCHEME, SERVED, TWICE, UP, WIDE, dice, random_database, random_query, random_scheme, same)
from watchzones.queries import is_query, ways
from watchzones.schemes import is_scheme
from watchzones.watchererrors import TooWide
from watchzones.widening import is_wide, widened

# Long rows; a table that refers to one with a key of one column and to one with a key of two.
LONG = ((((0, 9),) * 4, (0,), ()), (((0, 9),) * 4, (1,), (((3,), 0),)))
BOTH = (
    (((0, 3), (0, 3)), (0,), ()),
    (((0, 3), (0, 3), (0, 3)), (0, 2), ()),
    (((0, 3), (0, 3), (0, 3), (0, 3)), (0,), (((2,), 0), ((3, 1), 1))),
)


class Wide(unittest.TestCase):
    def widens(self, scheme, parts, *appended):
        """The parts are widened by just these ones, whatever the constraints and the output are."""
        self.assertIs(is_scheme(scheme), True)
        names = sorted({variable for _, variables in parts for variable in variables})
        for constraints, output in (((), ()), (((names[0], None, 3), (None, names[-1], 5)), (names[-1], names[0], names[0]))):
            query = (parts, constraints, output)
            self.assertIs(is_query(scheme, query), True)
            expected = (parts + appended, constraints, output)
            self.assertTrue(same(widened(scheme, query), expected), widened(scheme, query))
            self.assertIs(is_wide(scheme, query), appended == ())
            self.assertIs(is_wide(scheme, expected), True)
            self.assertEqual(widened(scheme, expected), expected)

    def refuses(self, scheme, query):
        self.assertIs(is_query(scheme, query), True)
        with self.assertRaises(TooWide) as caught:
            widened(scheme, query)
        self.assertTrue(same(caught.exception.query, query))
        self.assertIs(is_wide(scheme, query), False)


class TestWidened(Wide):
    def test_examples(self):
        self.assertEqual(
            [is_wide(SCHEME, BIG), is_wide(SCHEME, SERVED), widened(SCHEME, SERVED), widened(PAIRS, UP) == UP],
            [True, False, (((1, (0, 1, 2)), (0, (3, 4)), (0, (1, 5))), (), ()), True])

    def test_without_references(self):
        self.widens(PAIRS, ((0, (0, 1)), (0, (0, 2))))
        self.widens(LONG, ((0, (0, 1, 2, 3)), (0, (4, 5, 6, 7))))
        self.widens(((((0, 9),), (0,), ()), (((0, 9),), (0,), ())), ((0, (0,)), (1, (0,)), (1, (1,)), (0, (15,))))

    def test_no_part_of_the_referred_table(self):
        self.widens(SCHEME, ((1, (0, 1, 2)),))
        self.widens(SCHEME, ((1, (0, 1, 2)), (1, (3, 4, 5)), (1, (0, 0, 0)), (1, (9, 8, 7))))
        self.widens(BOTH, ((2, (0, 1, 2, 3)), (0, (2, 4))))
        self.widens(BOTH, ((2, (0, 1, 2, 3)), (1, (3, 4, 1))))
        self.widens(BOTH, ((2, (0, 1, 2, 3)), (0, (4, 5))), (0, (2, 6)))
        self.widens(BOTH, ((2, (0, 1, 2, 3)), (1, (1, 4, 3))), (1, (3, 5, 1)))

    def test_a_part_that_stands_for_it(self):
        self.widens(SCHEME, ((0, (1, 3)), (1, (0, 1, 2))))
        self.widens(SCHEME, ((1, (0, 1, 2)), (0, (4, 3)), (0, (1, 3))))
        self.widens(SCHEME, ((1, (0, 1, 1)), (0, (1, 1)), (1, (5, 1, 6))))

    def test_not_the_other_columns(self):
        self.widens(SCHEME, ((1, (0, 1, 2)), (0, (0, 1))), (0, (1, 3)))
        self.widens(SCHEME, ((1, (0, 1, 2)), (0, (2, 1))), (0, (1, 3)))
        self.widens(SCHEME, ((1, (0, 1, 2)), (0, (3, 1))), (0, (1, 4)))

    def test_each_part_in_its_order(self):
        self.widens(SCHEME, ((0, (9, 9)), (1, (0, 1, 2))), (0, (1, 3)))
        self.widens(SCHEME, ((1, (0, 7, 1)), (0, (6, 5))), (0, (7, 2)))
        self.widens(TWICE, ((1, (0, 7, 1)), (0, (6, 5))), (0, (7, 2)), (0, (1, 3)))
        self.refuses(SCHEME, (((1, (0, 2, 1)), (0, (6, 5)), (1, (0, 1, 2))), (), ()))

    def test_two_references_to_one_table(self):
        self.widens(TWICE, ((1, (0, 1, 2)), (0, (3, 4))), (0, (1, 5)), (0, (2, 6)))
        self.widens(TWICE, ((1, (0, 2, 1)), (0, (3, 4))), (0, (2, 5)), (0, (1, 6)))
        self.widens(TWICE, ((1, (0, 1, 2)), (0, (2, 4))), (0, (1, 3)))
        self.widens(TWICE, ((0, (1, 4)), (1, (0, 1, 2))), (0, (2, 3)))
        self.widens(TWICE, ((0, (1, 4)), (1, (0, 1, 2)), (0, (2, 4))))

    def test_an_appended_part_stands_for_later_references_too(self):
        self.widens(TWICE, ((1, (0, 1, 1)), (0, (3, 4))), (0, (1, 2)))
        self.widens(TWICE, ((1, (0, 1, 1)), (0, (0, 4)), (1, (1, 1, 1))), (0, (1, 2)))
        self.widens(SCHEME, ((1, (0, 1, 2)), (1, (3, 1, 4)), (0, (0, 0))), (0, (1, 5)))
        self.widens(SCHEME, ((1, (0, 1, 2)), (0, (0, 0)), (1, (3, 1, 4))), (0, (1, 5)))

    def test_references_two_columns_wide_in_another_order(self):
        self.widens(CROSSED, ((1, (0, 1, 2)), (0, (2, 1))))
        self.widens(CROSSED, ((1, (0, 1, 2)), (0, (1, 2))), (0, (2, 1)))
        self.widens(CROSSED, ((0, (0, 1)), (1, (0, 1, 1))), (0, (1, 1)))
        self.widens(CROSSED, ((0, (2, 0)), (1, (0, 1, 2))), (0, (2, 1)))
        self.widens(BOTH, ((2, (0, 1, 2, 3)), (1, (3, 0, 1))))
        self.widens(BOTH, ((2, (5, 6, 7, 8)), (1, (0, 0, 0))), (1, (8, 1, 6)))

    def test_two_references_to_different_tables(self):
        self.widens(BOTH, ((2, (0, 1, 2, 3)), (1, (3, 9, 1)), (0, (7, 7))), (0, (2, 4)))
        self.widens(BOTH, ((0, (2, 0)), (2, (0, 1, 2, 3)), (1, (1, 9, 3))), (1, (3, 4, 1)))
        self.refuses(BOTH, (((0, (0, 0)), (2, (0, 1, 2, 3)), (1, (0, 0, 0))), (), ()))
        self.widens(WIDE, ((3, (0, 1, 2, 3)), (1, (3,)), (0, (1, 2, 4))))
        self.widens(WIDE, ((3, (0, 1, 2, 3)), (1, (1,)), (0, (1, 2, 4))), (1, (3,)))

    def test_new_variables_are_the_least_that_are_none_yet(self):
        self.widens(SCHEME, ((1, (9, 8, 7)), (0, (6, 6))), (0, (8, 0)))
        self.widens(SCHEME, ((1, (0, 2, 4)), (0, (1, 3))), (0, (2, 5)))
        self.widens(SCHEME, ((1, (15, 14, 13)), (0, (0, 2))), (0, (14, 1)))
        self.widens(LONG, ((1, (3, 5, 7, 9)), (0, (0, 1, 6, 15))), (0, (9, 2, 4, 8)))
        self.widens(LONG, ((1, (0, 1, 2, 3)), (0, (4, 5, 6, 7))), (0, (3, 8, 9, 10)))
        self.widens(LONG, ((1, (0, 1, 2, 3)), (0, (4, 5, 6, 7)), (1, (8, 9, 10, 3))), (0, (3, 11, 12, 13)))

    def test_the_greatest_variable(self):
        # Four parts have no more than 16 places, so no new variable of theirs is above 15.
        self.widens(LONG, ((1, (0, 1, 2, 3)), (0, (4, 5, 6, 7)), (0, (8, 9, 10, 11))), (0, (3, 12, 13, 14)))
        self.widens(LONG, ((1, (15, 14, 13, 12)), (0, (11, 10, 9, 8)), (0, (7, 6, 5, 4))), (0, (12, 0, 1, 2)))

    def test_too_wide(self):
        full = ((1, (0, 1, 2)), (0, (3, 4)), (0, (5, 6)), (0, (7, 8)))
        self.refuses(SCHEME, (full, ((0, None, 3),), (1, 2)))
        self.refuses(SCHEME, (((1, (0, 1, 2)), (0, (3, 4)), (1, (5, 6, 7))), (), ()))
        self.refuses(TWICE, (((1, (0, 1, 2)), (0, (3, 4)), (0, (4, 3))), (), (0,)))
        self.refuses(LONG, (((1, (0, 1, 2, 3)), (0, (4, 5, 6, 7)), (0, (8, 9, 10, 11)), (0, (12, 13, 14, 15))), (), ()))
        self.widens(SCHEME, ((1, (0, 1, 2)), (0, (3, 4)), (0, (1, 6)), (0, (7, 8))))

    def test_the_error_holds_the_query(self):
        query = (((1, (0, 1, 2)), (0, (3, 4)), (0, (5, 6)), (0, (7, 8))), (), (8,))
        with self.assertRaises(TooWide) as caught:
            widened(SCHEME, query)
        self.assertEqual(vars(caught.exception), {"query": query})


class TestAgainstTheWords(Wide):
    def test_random_queries(self):
        seen = {0: 0, 1: 0, 2: 0, "too wide": 0}
        for seed in range(3000):
            chosen = dice(seed)
            scheme = chosen.choice((random_scheme(chosen, 4, 4), CROSSED, TWICE, BOTH, WIDE))
            query = random_query(chosen, scheme, 4, chosen.choice((3, 5, 12)))
            kept = copy.deepcopy((scheme, query))
            parts = oracle.wide_parts(scheme, query)
            self.assertIs(is_wide(scheme, query), parts == query[0])
            if len(parts) > 4:
                self.refuses(scheme, query)
                seen["too wide"] += 1
            else:
                self.assertTrue(same(widened(scheme, query), (parts, query[1], query[2])))
                self.assertIs(is_query(scheme, widened(scheme, query)), True)
                seen[len(parts) - len(query[0])] += 1
            self.assertTrue(same((scheme, query), kept))
        self.assertGreater(min(seen.values()), 20, seen)

    def test_ways_of_the_wide_query_cut_to_the_parts(self):
        some = 0
        for seed in range(1500):
            chosen = dice(seed)
            scheme = chosen.choice((CROSSED, TWICE, BOTH))
            query = random_query(chosen, scheme, 3)
            if is_wide(scheme, query) or len(oracle.wide_parts(scheme, query)) > 4:
                continue
            for _ in range(3):
                database = random_database(chosen, scheme)
                found = ways(scheme, widened(scheme, query), database)
                self.assertEqual(sorted(way[:len(query[0])] for way in found), ways(scheme, query, database))
                some += len(found) > 0
        self.assertGreater(some, 100)
