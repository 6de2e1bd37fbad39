import unittest

import oracle
from oracle import check_zones, within
from samples import BIG, SCHEME, dice, random_query, random_scheme
from watchzones.cases import cases, constraint_of, count_cases, reasons
from watchzones.decisions import decide
from watchzones.systems import solved, tightest
from watchzones.zones import hit, key_zones, lies_in, zones

ZONE = ((0, 999, 499, 999), (99, 0, -401, 99), (1000, 1000, 0, 1000), (0, 0, -500, 0))
TINY = ((((0, 1), (0, 1)), (0, 1), ()), (((0, 2), (0, 1)), (0,), (((1, 1), 0),)))
LONELY = ((((0, 4),), (0,), ()),)


class TestZones(unittest.TestCase):
    def test_examples(self):
        self.assertEqual([zones(SCHEME, BIG, 0), zones(SCHEME, BIG, 1)], [[], [ZONE]])
        self.assertEqual(key_zones(SCHEME, BIG, 1), [((0, 999), (0, 0))])
        self.assertEqual([hit(SCHEME, BIG, 1, (5, 3, 600)), hit(SCHEME, BIG, 1, (5, 3, 400))], [[0], []])

    def test_no_zone(self):
        query = (((0, (0, 1)),), ((0, 1, -1), (1, 0, 0)), ())
        for table in (0, 1):
            self.assertEqual(zones(SCHEME, query, table), [])
            self.assertEqual(key_zones(SCHEME, query, table), [])
            self.assertEqual(hit(SCHEME, query, table, (0, 0, 0)[:2 + table]), [])

    def test_one_part(self):
        query = (((0, (0, 1)),), ((0, 1, 3), (None, 1, -2)), ())
        self.assertEqual(zones(SCHEME, query, 0), [((0, 3, 12), (9, 0, 9), (0, -2, 0))])
        self.assertEqual(key_zones(SCHEME, query, 0), [((0, 12), (0, 0))])
        self.assertEqual(zones(SCHEME, (((0, (0, 0)),), (), ()), 0), [((0, 0, 9), (0, 0, 9), (0, 0, 0))])

    def test_key_zones_are_of_the_columns_of_the_key(self):
        scheme = ((((0, 9), (0, 5), (0, 7)), (0, 2), ()),)
        query = (((0, (0, 1, 2)),), ((0, None, 4), (1, None, 1), (2, 0, 2)), ())
        self.assertEqual(key_zones(scheme, query, 0), [((0, 4, 4), (2, 0, 6), (0, 0, 0))])
        scheme = ((((0, 9), (0, 5), (0, 7)), (1,), ()),)
        self.assertEqual(key_zones(scheme, query, 0), [((0, 1), (0, 0))])

    def test_several_zones_and_those_within_others(self):
        # The row takes the lower part or the higher one; the case in which both are one row lies in neither.
        query = (((0, (0, 1)), (0, (2, 3))), ((0, 2, -4),), (0,))
        self.assertEqual(zones(SCHEME, query, 0), [
            ((0, 95, 95), (9, 0, 9), (0, 0, 0)), ((0, 99, 99), (5, 0, 9), (-4, 0, 0))])
        self.assertEqual(key_zones(SCHEME, query, 0), [((0, 95), (0, 0)), ((0, 99), (-4, 0))])
        self.assertEqual(hit(SCHEME, query, 0, (3, 0)), [0])
        self.assertEqual(hit(SCHEME, query, 0, (4, 0)), [0, 1])
        self.assertEqual(hit(SCHEME, query, 0, (96, 0)), [1])
        query = (((0, (0, 1)), (0, (2, 3))), (), (0,))
        self.assertEqual(zones(SCHEME, query, 0), [((0, 99, 99), (9, 0, 9), (0, 0, 0))])

    def test_are_those_of_the_systems_of_the_cases(self):
        for seed in range(150):
            scheme = random_scheme(dice(seed))
            query = random_query(dice(seed), scheme)
            for table in range(len(scheme)):
                columns = list(range(len(scheme[table][0])))
                for nodes, found in (([16 + j for j in columns], zones(scheme, query, table)),
                                     ([16 + j for j in scheme[table][1]], key_zones(scheme, query, table))):
                    every = set()
                    for case in cases(scheme, query, table):
                        system = [constraint_of(scheme, query, None, case, reason)
                                  for reason in reasons(scheme, query, table, case)]
                        if solved(system)[0] == "solution":
                            every.add(tuple(tuple(0 if x == y else tightest(system, x, y)[0] for y in [*nodes, None])
                                            for x in [*nodes, None]))
                    check_zones(self, found, len(nodes))
                    self.assertEqual(found, sorted(
                        zone for zone in every if not any(zone != other and within(zone, other) for other in every)))

    def against_all_databases(self, scheme, seeds):
        databases = list(oracle.all_databases(scheme))
        some = 0
        for seed in seeds:
            query = random_query(dice(seed), scheme)
            for table, (columns, key, _) in enumerate(scheme):
                if count_cases(scheme, query, table) > 300:
                    continue
                found, keys = zones(scheme, query, table), key_zones(scheme, query, table)
                check_zones(self, found, len(columns))
                check_zones(self, keys, len(key))
                for row in oracle.all_rows(columns):
                    change = ("insert", table, row, ())
                    can = oracle.altering(scheme, query, databases, change) != set()
                    some += can
                    self.assertEqual(any(lies_in(zone, row) for zone in found), can, (seed, row))
                    self.assertEqual(hit(scheme, query, table, row), [
                        i for i, zone in enumerate(found) if lies_in(zone, row)])
                for row in oracle.all_rows([columns[k] for k in key]):
                    change = ("delete", table, row, ())
                    can = oracle.altering(scheme, query, databases, change) != set()
                    self.assertEqual(any(lies_in(zone, row) for zone in keys), can, (seed, row))
        self.assertGreater(some, 20)

    def test_against_trying_all_rows_on_all_databases(self):
        self.against_all_databases(TINY, range(25))
        self.against_all_databases(LONELY, range(40))

    def test_against_deciding_all_rows(self):
        for seed in range(60):
            scheme = random_scheme(dice(seed))
            query = random_query(dice(seed), scheme)
            for table, (columns, key, _) in enumerate(scheme):
                found, keys = zones(scheme, query, table), key_zones(scheme, query, table)
                for row in oracle.all_rows(columns):
                    can = decide(scheme, query, ("insert", table, row, ()))[0] == "can"
                    self.assertEqual(any(lies_in(zone, row) for zone in found), can)
                for row in oracle.all_rows([columns[k] for k in key]):
                    can = decide(scheme, query, ("delete", table, row, ()))[0] == "can"
                    self.assertEqual(any(lies_in(zone, row) for zone in keys), can)

    def test_new_lists(self):
        for found in (zones, key_zones):
            found(SCHEME, BIG, 1).clear()
            self.assertEqual(len(found(SCHEME, BIG, 1)), 1)
        hit(SCHEME, BIG, 1, (5, 3, 600)).clear()
        self.assertEqual(hit(SCHEME, BIG, 1, (5, 3, 600)), [0])


class TestLiesIn(unittest.TestCase):
    def test_on_the_edges_and_one_beyond(self):
        for numbers, expected in (((0, 0, 500), True), ((0, 0, 499), False), ((999, 99, 1000), True),
                                  ((1000, 99, 1000), False), ((999, 100, 1000), False), ((999, 99, 1001), False),
                                  ((-1, 0, 500), False), ((0, -1, 500), False)):
            self.assertIs(lies_in(ZONE, numbers), expected, numbers)

    def test_differences(self):
        zone = ((0, 3, 10), (-1, 0, 10), (0, 0, 0))
        for numbers, expected in (((4, 1), True), ((5, 1), False), ((2, 1), True), ((1, 1), False), ((10, 9), True),
                                  ((10, 10), False), ((11, 9), False), ((0, -1), False), ((3, 0), True), ((4, 0), False)):
            self.assertIs(lies_in(zone, numbers), expected, numbers)

    def test_one_number_and_none(self):
        for number, expected in ((-2, True), (-3, False), (7, True), (8, False), (0, True)):
            self.assertIs(lies_in(((0, 7), (2, 0)), (number,)), expected)
        self.assertIs(lies_in(((0,),), ()), True)

    def test_hit_on_the_edges(self):
        for row, expected in (((0, 0, 500), [0]), ((999, 99, 1000), [0]), ((0, 0, 499), []), ((0, 0, 501), [0])):
            self.assertEqual(hit(SCHEME, BIG, 1, row), expected)
