import itertools
import unittest

from samples import (
    BIG, DATA, OTHERS, SCHEME, WIDE, dice, misshapen, random_database, random_query, random_scheme, replaced_by_others)
from watchzones.queries import answer, is_query, ways

LIMIT = 4 * 10 ** 6
PART = (0, (0, 1))
ROWS = (((1, 1), (2, 1), (3, 2)), ((1, 1, 1), (2, 3, 3)))


def ways_by_trying(query, database):
    """All ways, from the words of the document: every choice of rows is tried."""
    parts, constraints, _ = query
    found = []
    for rows in itertools.product(*[database[table] for table, _ in parts]):
        pairs = [pair for (_, variables), row in zip(parts, rows) for pair in zip(variables, row)]
        known = dict(pairs)
        known[None] = 0
        if all(known[x] == n for x, n in pairs) and all(known[x] - known[y] <= c for x, y, c in constraints):
            found.append(rows)
    return sorted(found)


def answer_by_trying(query, database):
    found = []
    for rows in ways_by_trying(query, database):
        known = {x: n for (_, variables), row in zip(query[0], rows) for x, n in zip(variables, row)}
        found.append(tuple(known[x] for x in query[2]))
    return sorted(found)


class TestIsQuery(unittest.TestCase):
    def right(self, *queries):
        for query in queries:
            self.assertIs(is_query(SCHEME, query), True, query)

    def wrong(self, *queries):
        for query in queries:
            self.assertIs(is_query(SCHEME, query), False, query)

    def test_example(self):
        self.right(BIG)

    def test_number_of_parts(self):
        found = [is_query(SCHEME, ((PART,) * n, (), ())) for n in range(7)]
        self.assertEqual(found, [False, True, True, True, True, False, False])

    def test_tables_of_parts(self):
        self.right((((1, (0, 1, 2)),), (), ()))
        for table in (2, -1, 10, True, False, None, "0", (0,)):
            self.wrong((((table, (0, 1)),), (), ()), (((table, (0, 1, 2)),), (), ()))

    def test_variables(self):
        self.right((((0, (0, 15)),), (), (15,)), (((0, (15, 15)),), (), ()), (((0, (3, 3)), (0, (3, 3))), (), (3, 3)))
        for variable in (16, -1, True, False, None, "a", "0", (0,), [0]):
            self.wrong((((0, (0, variable)),), (), ()), ((PART, (0, (variable, 0))), (), ()))

    def test_number_of_variables(self):
        for variables in ((), (0,), (0, 1, 2), [0, 1], None, 0, "ab"):
            self.wrong((((0, variables),), (), ()))
        self.wrong((((1, (0, 1)),), (), ()), ((0, (0, 1)), (), ()), (((0, (0, 1), ()),), (), ()), (((0,),), (), ()))

    def test_constraints(self):
        for constraint in ((0, 1, 5), (1, 0, -5), (None, 0, 0), (1, None, 0), (0, 1, LIMIT), (0, 1, -LIMIT)):
            self.right(((PART,), (constraint,), ()))
        for constraint in ((0, 0, 5), (None, None, 5), (0, 2, 5), (2, None, 5), (16, None, 5), (-1, None, 5),
                           (0, 1, LIMIT + 1), (0, 1, -LIMIT - 1), (0, 1, True), (0, 1, None), (0, 1, "1"),
                           (False, 1, 5), (0, True, 5), (True, None, 5), (None, False, 5), ("a", None, 5), (0, 1),
                           (0, 1, 5, 5), [0, 1, 5], (), None, 5, "015", ((0,), 1, 5), ([0], 1, 5)):
            self.wrong(((PART,), (constraint,), ()), ((PART,), ((0, 1, 5), constraint), ()))

    def test_constraints_may_use_variables_of_all_parts(self):
        self.right(((PART, (0, (2, 3))), ((0, 3, 1), (2, 1, 0)), (3, 0)))

    def test_eight_and_nine_constraints_and_outputs(self):
        self.right(((PART,), ((0, 1, 5),) * 8, ()), ((PART,), (), (0,) * 8), ((PART,), (), (0, 1) * 4))
        self.wrong(((PART,), ((0, 1, 5),) * 9, ()), ((PART,), (), (0,) * 9))

    def test_outputs(self):
        self.right(((PART,), (), ()), ((PART,), (), (1,)), ((PART,), (), (1, 0, 1)))
        for variable in (2, 16, -1, True, False, None, "a", (0,), [0]):
            self.wrong(((PART,), (), (variable,)), ((PART,), (), (0, variable)))

    def test_lengths_and_kinds(self):
        self.wrong(BIG[:2], (*BIG, ()), list(BIG), (list(BIG[0]), *BIG[1:]), (BIG[0], list(BIG[1]), BIG[2]),
                   (*BIG[:2], list(BIG[2])), (None, *BIG[1:]), (BIG[0], None, BIG[2]), (*BIG[:2], None))
        self.wrong(*misshapen(BIG), *misshapen(((PART,), ((0, 1, 0), (None, 1, 1)), (0, 1))))

    def test_any_value(self):
        self.wrong(*OTHERS)
        for value in replaced_by_others(BIG):
            self.assertIn(is_query(SCHEME, value), (True, False))

    def test_random_queries(self):
        for seed in range(200):
            scheme = random_scheme(dice(seed))
            self.assertIs(is_query(scheme, random_query(dice(seed), scheme, 4, 16)), True)


class TestWays(unittest.TestCase):
    def test_examples(self):
        self.assertEqual(ways(SCHEME, BIG, DATA), [((5, 3, 600), (3, 5))])
        self.assertEqual(answer(SCHEME, BIG, DATA), [(5,)])

    def test_no_row(self):
        self.assertEqual(ways(SCHEME, BIG, ((), ())), [])
        self.assertEqual(answer(SCHEME, BIG, ((), ())), [])
        self.assertEqual(ways(SCHEME, ((PART, (1, (2, 3, 4))), (), ()), (ROWS[0], ())), [])

    def test_constraints_just_met_and_missed_by_one(self):
        for c, many in ((-2, 0), (-1, 1), (0, 3), (1, 3)):
            query = (((1, (0, 1, 2)), PART), ((0, 1, c),), (0, 1))
            database = (((1, 2), (3, 3), (4, 4)), ())
            self.assertEqual(len(ways(SCHEME, ((PART,), ((0, 1, c),), ()), database)), many, c)
            self.assertEqual(ways(SCHEME, query, database), [])
        for constraint, many in (((0, None, 2), 2), ((None, 0, -2), 2), ((0, None, 3), 3), ((None, 0, -4), 0)):
            self.assertEqual(len(ways(SCHEME, ((PART,), (constraint,), ()), ROWS)), many)

    def test_repetitions(self):
        self.assertEqual(answer(SCHEME, ((PART,), (), (1,)), ROWS), [(1,), (1,), (2,)])
        self.assertEqual(answer(SCHEME, ((PART, (0, (2, 1))), (), (1,)), ROWS), [(1,)] * 4 + [(2,)])

    def test_empty_output(self):
        self.assertEqual(answer(SCHEME, ((PART,), (), ()), ROWS), [(), (), ()])
        self.assertEqual(answer(SCHEME, ((PART,), ((0, None, 0),), ()), ROWS), [])

    def test_several_parts_may_have_the_same_row(self):
        query = ((PART, (0, (2, 3))), (), (0, 2))
        self.assertEqual(len(ways(SCHEME, query, ROWS)), 9)
        self.assertIn(((2, 1), (2, 1)), ways(SCHEME, query, ROWS))
        self.assertEqual(answer(SCHEME, query, ROWS), [(x, y) for x in (1, 2, 3) for y in (1, 2, 3)])

    def test_a_variable_in_several_places(self):
        self.assertEqual(ways(SCHEME, (((0, (4, 4)),), (), ()), ROWS), [((1, 1),)])
        self.assertEqual(ways(SCHEME, (((1, (0, 1, 1)),), (), ()), ROWS), [((1, 1, 1),), ((2, 3, 3),)])
        self.assertEqual(ways(SCHEME, (((1, (0, 1, 1)), (0, (1, 0))), (), ()), ROWS),
                         [((1, 1, 1), (1, 1)), ((2, 3, 3), (3, 2))])

    def test_ascending_by_parts_and_answers_by_outputs(self):
        query = ((PART, (0, (2, 3))), ((3, 1, -1),), (3, 0))
        self.assertEqual(ways(SCHEME, query, ROWS), [((3, 2), (1, 1)), ((3, 2), (2, 1))])
        database = (((1, 3), (2, 2), (3, 1)), ())
        self.assertEqual(ways(SCHEME, ((PART,), (), ()), database), [((1, 3),), ((2, 2),), ((3, 1),)])
        self.assertEqual(answer(SCHEME, ((PART,), (), (1, 0)), database), [(1, 3), (2, 2), (3, 1)])

    def test_against_trying_all_rows(self):
        some = 0
        for seed in range(600):
            scheme = random_scheme(dice(seed))
            database = random_database(dice(seed), scheme, 6)
            query = random_query(dice(seed + 1), scheme, 4 if seed % 5 == 0 else 3)
            self.assertEqual(ways(scheme, query, database), ways_by_trying(query, database), seed)
            self.assertEqual(answer(scheme, query, database), answer_by_trying(query, database), seed)
            some += ways(scheme, query, database) != []
        self.assertGreater(some, 100)

    def test_four_parts_over_a_table_of_thirty_rows(self):
        database = (tuple((n, n, 0, 0) for n in range(30)),)
        scheme = ((((0, 99),) * 4, (0,), ()),)
        chain = tuple((0, (n, n + 1, 8, 8)) for n in range(4))
        self.assertEqual(len(ways(scheme, (chain, (), ()), database)), 30)
        apart = ((0, (0, 4, 8, 8)), (0, (1, 5, 8, 8)), (0, (2, 6, 8, 8)), (0, (3, 7, 8, 8)))
        self.assertEqual(len(ways(scheme, (apart, ((0, 1, -1), (1, 2, -1), (2, 3, -1)), ()), database)), 27405)

    def test_new_lists(self):
        for found in (ways, answer):
            first = found(SCHEME, BIG, DATA)
            second = found(SCHEME, BIG, DATA)
            first.append(None)
            self.assertEqual(len(second), 1)
            self.assertEqual(found(SCHEME, BIG, DATA), second)

    def test_wide_scheme(self):
        query = (((3, (0, 1, 2, 3)), (0, (1, 2, 4)), (1, (3,))), (), (0, 4))
        self.assertIs(is_query(WIDE, query), True)
        database = (((1, 0, 0), (1, 1, 1)), ((1,), (2,)), (), ((5, 1, 0, 2), (6, 1, 1, 1), (7, 1, 1, 2)))
        self.assertEqual(answer(WIDE, query, database), [(5, 0), (6, 1), (7, 1)])
