import copy
import unittest

import oracle
from samples import BIG, DATA, SCHEME, dice, random_change, random_database, random_query, random_scheme, same
from watchzones.databases import carried_out
from watchzones.queries import answer
from watchzones.repairs import effects, repaired

LONELY = ((((0, 9),), (0,), ()),)
# Two tables whose rows may have the same numbers.
TWINS = ((((0, 9), (0, 9)), (0,), ()), (((0, 9), (0, 9)), (0,), ()))


def put(*row):
    return ("insert", 0, row, ())


def take(*key):
    return ("delete", 0, key, ())


class TestEffects(unittest.TestCase):
    def has(self, scheme, query, database, change, gained, lost):
        self.assertEqual(effects(scheme, query, database, change), (gained, lost))

    def test_examples(self):
        self.has(SCHEME, BIG, DATA, ("delete", 1, (5,), ()), [], [(5,)])
        self.has(SCHEME, BIG, DATA, ("insert", 1, (4, 3, 500), ()), [(4,)], [])

    def test_changes_that_do_nothing(self):
        query = (((0, (0, 1)),), (), (0, 1))
        for change in (put(3, 5), put(3, 6), take(4), take(3), ("insert", 1, (6, 4, 0), ()), ("insert", 1, (5, 3, 600), ()),
                       ("delete", 1, (6,), ())):
            self.has(SCHEME, query, DATA, change, [], [])
            self.has(SCHEME, (((1, (0, 1, 2)),), (), (0,)), DATA, change, [], [])
            self.assertEqual(len({id(some) for some in effects(SCHEME, query, DATA, change)}), 2)

    def test_changes_that_take_effect_beside_the_query(self):
        for change in (put(4, 9), ("insert", 1, (6, 3, 499), ())):
            self.has(SCHEME, BIG, DATA, change, [], [])
        self.has(SCHEME, (((0, (0, 1)),), (), (0,)), DATA, ("delete", 1, (5,), ()), [], [])

    def test_ways_that_have_the_row_in_one_part_and_in_several(self):
        query = (((0, (0,)), (0, (1,))), (), (0, 1))
        self.has(LONELY, query, (((1,), (3,)),), put(2), [(1, 2), (2, 1), (2, 2), (2, 3), (3, 2)], [])
        self.has(LONELY, query, (((1,), (2,), (3,)),), take(2), [], [(1, 2), (2, 1), (2, 2), (2, 3), (3, 2)])
        self.has(LONELY, query, ((),), put(2), [(2, 2)], [])
        query = (((0, (0,)), (0, (1,)), (0, (2,))), ((0, 1, 0), (1, 2, 0)), (0, 1, 2))
        self.has(LONELY, query, (((1,), (3,)),), put(2), [
            (1, 1, 2), (1, 2, 2), (1, 2, 3), (2, 2, 2), (2, 2, 3), (2, 3, 3)], [])

    def test_repetitions(self):
        query = (((0, (0,)), (0, (1,))), (), ())
        self.has(LONELY, query, (((1,), (3,)),), put(2), [()] * 5, [])
        self.has(LONELY, query, (((1,), (2,), (3,)),), take(3), [], [()] * 5)
        query = (((0, (0,)), (0, (1,))), (), (0,))
        self.has(LONELY, query, (((1,), (3,)),), put(2), [(1,), (2,), (2,), (2,), (3,)], [])

    def test_outputs_are_ascending(self):
        query = (((0, (0,)), (0, (1,))), (), (1, 0, 1))
        self.has(LONELY, query, (((0,), (5,)),), put(3), [(0, 3, 0), (3, 0, 3), (3, 3, 3), (3, 5, 3), (5, 3, 5)], [])

    def test_an_equal_row_of_another_table_is_not_the_changed_one(self):
        query = (((0, (0, 1)), (1, (2, 3))), (), (0, 2))
        database = (((1, 1), (4, 4)), ((2, 2), (3, 3)))
        self.has(TWINS, query, database, put(2, 2), [(2, 2), (2, 3)], [])
        self.has(TWINS, query, database, ("insert", 1, (1, 1), ()), [(1, 1), (4, 1)], [])
        self.has(TWINS, query, database, ("delete", 1, (3,), ()), [], [(1, 3), (4, 3)])

    def test_a_deletion_loses_the_row_that_has_the_key(self):
        query = (((0, (0, 1)),), ((None, 1, -5),), (1,))
        self.has(TWINS, query, (((1, 5), (2, 4)), ()), take(1), [], [(5,)])
        self.has(TWINS, query, (((1, 5), (2, 4)), ()), take(2), [], [])

    def test_29_rows_in_the_changed_table(self):
        scheme = ((((0, 99),), (0,), ()),)
        query = (((0, (0,)), (0, (1,))), (), ())
        rows = tuple((n,) for n in range(29))
        self.has(scheme, query, (rows,), put(50), [()] * (30 * 30 - 29 * 29), [])
        self.has(scheme, query, (rows,), take(5), [], [()] * (29 * 29 - 28 * 28))

    def test_against_all_ways_with_the_changed_row(self):
        some = 0
        for seed in range(2000):
            chosen = dice(seed)
            scheme = random_scheme(chosen)
            query, database = random_query(chosen, scheme), random_database(chosen, scheme)
            change = random_change(chosen, scheme, plain=True)
            before = copy.deepcopy((scheme, query, database, change))
            found = effects(scheme, query, database, change)
            numbers = []
            for rows, _ in oracle.changed_ways(scheme, query, database, change):
                known = {x: n for (_, inner), row in zip(query[0], rows) for x, n in zip(inner, row)}
                numbers.append(tuple(known[x] for x in query[2]))
            expected = (sorted(numbers), []) if change[0] == "insert" else ([], sorted(numbers))
            self.assertTrue(same(found, expected), (found, expected))
            some += numbers != []
            self.assertEqual((scheme, query, database, change), before)
            self.assertEqual(effects(scheme, query, database, change), found)
        self.assertGreater(some, 150)

    def test_new_lists(self):
        for change in (("delete", 1, (5,), ()), ("insert", 1, (4, 3, 500), ()), put(3, 5)):
            kept = copy.deepcopy(effects(SCHEME, BIG, DATA, change))
            for some in effects(SCHEME, BIG, DATA, change):
                some.append(None)
            self.assertEqual(effects(SCHEME, BIG, DATA, change), kept)


class TestRepaired(unittest.TestCase):
    def test_example(self):
        self.assertEqual(repaired([(5,)], [(4,)], []), [(4,), (5,)])

    def test_gained_and_lost(self):
        rows = [(1,), (2,), (2,), (2,), (5,)]
        for gained, lost, expected in (
                ([], [], rows), ([(2,)], [], [(1,), (2,), (2,), (2,), (2,), (5,)]),
                ([], [(2,)], [(1,), (2,), (2,), (5,)]), ([], [(2,), (2,)], [(1,), (2,), (5,)]),
                ([], [(2,), (2,), (2,)], [(1,), (5,)]), ([], rows, []), (rows, rows, rows),
                ([(9,), (0,)], [(5,), (1,)], [(0,), (2,), (2,), (2,), (9,)]),
                ([(3,), (3,)], [(2,), (1,), (2,)], [(2,), (3,), (3,), (5,)]), ([(2,)], [(2,)], rows)):
            self.assertEqual(repaired(rows, gained, lost), expected)

    def test_an_empty_answer_and_empty_outputs(self):
        self.assertEqual(repaired([], [], []), [])
        self.assertEqual(repaired([], [(1, 2), (1, 2), (0, 9)], []), [(0, 9), (1, 2), (1, 2)])
        self.assertEqual(repaired([(), (), ()], [()], [(), ()]), [(), ()])

    def test_many_outputs(self):
        rows = [(n // 2, -n) for n in range(20000)]
        self.assertEqual(repaired(sorted(rows), [(-1, 0)], rows[500:]), [(-1, 0), *sorted(rows[:500])])

    def test_new_lists_and_arguments_as_before(self):
        rows, gained, lost = [(1,), (2,)], [(0,)], [(2,)]
        found = repaired(rows, gained, lost)
        found.append((7,))
        self.assertEqual((rows, gained, lost), ([(1,), (2,)], [(0,)], [(2,)]))
        repaired(rows, [], []).append((7,))
        self.assertEqual(rows, [(1,), (2,)])
        repaired([], gained, []).append((7,))
        self.assertEqual(gained, [(0,)])

    def test_the_answer_behind_a_change_is_the_repaired_one(self):
        some = 0
        for seed in range(2500):
            chosen = dice(seed)
            scheme = random_scheme(chosen)
            query, database = random_query(chosen, scheme), random_database(chosen, scheme)
            change = random_change(chosen, scheme, plain=True)
            behind = carried_out(scheme, database, change)[0]
            known = answer(scheme, query, database)
            gained, lost = effects(scheme, query, database, change)
            self.assertTrue(same(repaired(known, gained, lost), answer(scheme, query, behind)))
            some += gained + lost != []
        self.assertGreater(some, 200)
