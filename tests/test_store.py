import copy
import unittest

from samples import (
    BIG, DATA, OTHERS, SCHEME, WIDE, dice, misshapen, random_change, random_database, random_query, random_scheme,
    replaced_by_others, same)
from watchzones.databases import carried_out, is_change
from watchzones.errors import InvalidChange, InvalidQuery, TooManyCases, UnknownMark, UnknownQuery, WatchzonesError
from watchzones.queries import answer, is_query
from watchzones.store import Store
from watchzones.zones import hit

SMALL = (((0, (0, 1)),), ((1, None, 4),), (1, 0))
PAIRS = (((0, (0, 1)), (0, (2, 3))), ((0, 2, -4),), (0, 2))
ALL = (((1, (0, 1, 2)),), (), ())
QUERIES = [BIG, SMALL, PAIRS, ALL]


def filled(database=DATA):
    store = Store(SCHEME, database)
    for query in QUERIES:
        store.add(query)
    return store


class Stores(unittest.TestCase):
    def right(self, store, scheme, queries, database):
        """The answers are those of the database, reckoned anew."""
        self.assertTrue(same(store.tables(), database))
        for number, query in enumerate(queries):
            self.assertTrue(same(store.look(number), answer(scheme, query, database)))
        with self.assertRaises(UnknownQuery):
            store.look(len(queries))

    def raises(self, kind, name, held, call, *arguments):
        with self.assertRaises(kind) as caught:
            call(*arguments)
        self.assertIs(type(caught.exception), kind)
        self.assertTrue(same(getattr(caught.exception, name), held), (getattr(caught.exception, name), held))


class TestStore(Stores):
    def carries(self, store, change, hindrance, database, looked):
        self.assertEqual(store.carry(change), hindrance)
        self.right(store, SCHEME, QUERIES, database)
        self.assertEqual([store.looked(number) for number in range(len(QUERIES))], looked)

    def test_example(self):
        store = Store(SCHEME, DATA)
        self.assertEqual(
            [store.add(BIG), store.look(0), store.carry(("insert", 0, (4, 9), ())), store.carry(("delete", 1, (5,), ())),
             store.look(0), store.looked(0)],
            [0, [(5,)], None, None, [], 1])

    def test_a_new_store(self):
        store = Store(SCHEME, DATA)
        self.assertEqual(store.tables(), DATA)
        self.assertEqual([store.add(query) for query in QUERIES], [0, 1, 2, 3])
        self.right(store, SCHEME, QUERIES, DATA)
        self.assertEqual([store.looked(number) for number in range(4)], [0] * 4)

    def test_changes_that_take_effect(self):
        store = filled()
        self.carries(store, ("insert", 0, (4, 9), ()), None, (((3, 5), (4, 9)), ((5, 3, 600),)), [0, 0, 1, 0])
        self.carries(store, ("insert", 1, (9, 4, 500), ()), None, (((3, 5), (4, 9)), ((5, 3, 600), (9, 4, 500))), [1, 0, 1, 1])
        self.carries(store, ("insert", 1, (7, 4, 499), ()), None,
                     (((3, 5), (4, 9)), ((5, 3, 600), (7, 4, 499), (9, 4, 500))), [1, 0, 1, 2])
        self.assertEqual(store.look(0), [(5,), (9,)])
        self.carries(store, ("insert", 0, (8, 4), ()), None,
                     (((3, 5), (4, 9), (8, 4)), ((5, 3, 600), (7, 4, 499), (9, 4, 500))), [1, 1, 2, 2])
        self.assertEqual((store.look(1), store.look(2)), ([(4, 8)], [(3, 8), (4, 8)]))
        self.carries(store, ("delete", 1, (5,), ()), None,
                     (((3, 5), (4, 9), (8, 4)), ((7, 4, 499), (9, 4, 500))), [2, 1, 2, 3])
        self.carries(store, ("delete", 0, (3,), ()), None, (((4, 9), (8, 4)), ((7, 4, 499), (9, 4, 500))), [2, 1, 3, 3])
        self.assertEqual((store.look(0), store.look(2), store.look(3)), ([(9,)], [(4, 8)], [(), ()]))

    def test_changes_that_do_nothing(self):
        store = filled()
        for change, hindrance in ((("insert", 0, (3, 4), ()), ("key", (3, 5))), (("insert", 0, (3, 5), ()), ("key", (3, 5))),
                                  (("insert", 1, (5, 9, 700), ()), ("key", (5, 3, 600))),
                                  (("insert", 1, (6, 9, 700), ()), ("reference", 0)), (("delete", 0, (9,), ()), ("missing",)),
                                  (("delete", 1, (6,), ()), ("missing",)), (("delete", 0, (3,), ()), ("referred", 1, (5, 3, 600)))):
            self.carries(store, change, hindrance, DATA, [0] * 4)

    def test_the_second_reference(self):
        database = (((0, 0, 0),), ((1,),), (), ())
        store = Store(WIDE, database)
        store.add((((3, (0, 1, 2, 3)),), (), (3,)))
        self.assertEqual(store.carry(("insert", 3, (0, 0, 0, 2), ())), ("reference", 1))
        self.assertEqual(store.carry(("insert", 3, (0, 0, 0, 1), ())), None)
        self.assertEqual((store.look(0), store.looked(0)), ([(1,)], 1))

    def test_looked_counts_rows_in_the_zones_and_not_changed_answers(self):
        # The row lies in a zone, though the answer stays: there is no other row that is greater by four.
        store = Store(SCHEME, ((), ()))
        store.add(PAIRS)
        store.carry(("insert", 0, (50, 5), ()))
        self.assertEqual((store.look(0), store.looked(0)), ([], 1))
        store.carry(("insert", 0, (50, 5), ()))
        self.assertEqual(store.looked(0), 1)
        store.carry(("delete", 0, (50,), ()))
        self.assertEqual((store.look(0), store.looked(0)), ([], 2))

    def test_a_deletion_looks_at_the_row_and_not_only_at_its_key(self):
        store = Store(SCHEME, (((3, 4), (4, 5)), ()))
        store.add(SMALL)
        store.carry(("delete", 0, (4,), ()))
        self.assertEqual((store.look(0), store.looked(0)), ([(4, 3)], 0))
        store.carry(("delete", 0, (3,), ()))
        self.assertEqual((store.look(0), store.looked(0)), ([], 1))

    def test_queries_added_late(self):
        store = filled()
        store.carry(("insert", 0, (8, 4), ()))
        self.assertEqual(store.add(SMALL), 4)
        self.assertEqual([store.looked(1), store.looked(4), store.look(4)], [1, 0, [(4, 8)]])
        store.carry(("insert", 0, (9, 3), ()))
        self.assertEqual([store.looked(1), store.looked(4), store.look(4)], [2, 1, [(3, 9), (4, 8)]])
        self.right(store, SCHEME, [*QUERIES, SMALL], store.tables())

    def test_equal_queries(self):
        store = Store(SCHEME, DATA)
        self.assertEqual([store.add(BIG), store.add(BIG)], [0, 1])
        store.carry(("delete", 1, (5,), ()))
        self.assertEqual([store.look(0), store.look(1), store.looked(0), store.looked(1)], [[], [], 1, 1])

    def test_a_table_that_is_filled_to_thirty_rows(self):
        store = Store(SCHEME, ((), ()))
        queries = [PAIRS, SMALL, (((0, (0, 1)), (0, (2, 1))), (), (1,))]
        for query in queries:
            store.add(query)
        rows = []
        for n in range(30):
            row = (n * 7 % 30, n % 10)
            rows = sorted([*rows, row])
            self.assertIs(store.carry(("insert", 0, row, ())), None)
            self.right(store, SCHEME, queries, (tuple(rows), ()))
        self.assertEqual(len(store.tables()[0]), 30)
        self.assertEqual([store.looked(0), store.looked(1), store.looked(2)], [30, 15, 30])
        self.assertIs(store.carry(("insert", 1, (1, 5, 9), ())), None)
        self.right(store, SCHEME, queries, (tuple(rows), ((1, 5, 9),)))

    def test_marks(self):
        store = filled()
        self.assertEqual([store.mark(), store.mark()], [0, 1])
        store.carry(("insert", 0, (8, 4), ()))
        store.add(SMALL)
        self.assertEqual(store.mark(), 2)
        store.carry(("delete", 0, (8,), ()))
        store.carry(("delete", 1, (5,), ()))
        self.assertEqual([store.look(4), store.looked(4), store.looked(0)], [[], 1, 1])
        self.assertIs(store.back(2), None)
        self.right(store, SCHEME, [*QUERIES, SMALL], (((3, 5), (8, 4)), ((5, 3, 600),)))
        self.assertEqual([store.looked(number) for number in range(5)], [0, 1, 1, 0, 0])
        for _ in range(2):
            self.assertIs(store.back(0), None)
            self.right(store, SCHEME, QUERIES, DATA)
            self.assertEqual([store.looked(number) for number in range(4)], [0] * 4)
            self.raises(UnknownQuery, "number", 4, store.looked, 4)
            self.raises(UnknownMark, "number", 1, store.back, 1)
            store.carry(("delete", 1, (5,), ()))
            store.add(ALL)
        self.assertEqual([store.mark(), store.mark()], [1, 2])

    def test_beside_answers_that_are_reckoned_anew(self):
        changed = 0
        for seed in range(150):
            chosen = dice(seed)
            scheme = random_scheme(chosen)
            database = random_database(chosen, scheme)
            store, queries, looked, marks = Store(scheme, database), [], [], []
            for _ in range(30):
                word = chosen.choice(("add", "carry", "carry", "carry", "carry", "mark", "back"))
                if word == "add" and len(queries) < 5:
                    queries.append(random_query(chosen, scheme))
                    looked = [*looked, 0]
                    self.assertEqual(store.add(queries[-1]), len(queries) - 1)
                elif word == "carry":
                    change = random_change(chosen, scheme, plain=True)
                    behind, hindrance = carried_out(scheme, database, change)
                    self.assertEqual(store.carry(change), hindrance)
                    if hindrance is None:
                        (row,) = set(behind[change[1]]) ^ set(database[change[1]])
                        looked = [n + (hit(scheme, query, change[1], row) != []) for n, query in zip(looked, queries)]
                        changed += 1
                    database = behind
                elif word == "mark":
                    self.assertEqual(store.mark(), len(marks))
                    marks.append((database, list(queries), looked))
                elif word == "back" and marks:
                    number = chosen.randrange(len(marks))
                    self.assertIs(store.back(number), None)
                    del marks[number + 1:]
                    database, queries, looked = marks[number][0], list(marks[number][1]), marks[number][2]
                self.right(store, scheme, queries, database)
                self.assertEqual([store.looked(number) for number in range(len(queries))], looked)
        self.assertGreater(changed, 500)


class TestErrors(Stores):
    def unchanged(self, kind, name, held, call, *arguments):
        store, kept = call.__self__, copy.deepcopy(arguments)
        self.raises(kind, name, held, call, *arguments)
        self.assertTrue(same(arguments, kept))
        self.right(store, SCHEME, QUERIES, DATA)
        self.assertEqual([store.looked(number) for number in range(4)], [0] * 4)

    def test_add(self):
        store = filled()
        wrong = [*OTHERS, *misshapen(BIG), *[value for value in replaced_by_others(BIG) if not is_query(SCHEME, value)]]
        for value in wrong:
            self.unchanged(InvalidQuery, "value", value, store.add, value)
        self.assertEqual(store.add(SMALL), 4)

    def test_add_with_too_many_cases(self):
        line = ((((0, 3),), (0,), ()),)
        store = Store(line, (((1,),),))
        query = (tuple((0, (p,)) for p in range(4)), (), ())
        self.raises(TooManyCases, "number", 945, store.add, query)
        self.raises(UnknownQuery, "number", 0, store.look, 0)
        self.assertEqual(store.add((query[0][:3], (), ())), 0)
        self.assertEqual(store.look(0), [()])

    def test_carry(self):
        store = filled()
        put, take = ("insert", 1, (6, 3, 500), ()), ("delete", 1, (5,), ())
        wrong = [*OTHERS, *misshapen(put), *misshapen(take)]
        wrong += [value for value in replaced_by_others(put) if not is_change(SCHEME, value)]
        wrong += [("insert", 1, (6, "a", 500), ()), ("delete", 1, ("d",), ()), ("insert", 0, ("a", "a"), (("a", None, 3),)),
                  ("delete", 0, (3,), (("a", None, 3),)), ("insert", 0, (100, 3), ()), ("delete", 2, (3,), ())]
        for value in wrong:
            self.unchanged(InvalidChange, "value", value, store.carry, value)

    def test_look_looked_and_back(self):
        store = filled()
        for value in [*[value for value in OTHERS if type(value) is not int], 4, -1, 16, 10 ** 29, True, False]:
            self.unchanged(UnknownQuery, "number", value, store.look, value)
            self.unchanged(UnknownQuery, "number", value, store.looked, value)
            self.unchanged(UnknownMark, "number", value, store.back, value)
        self.unchanged(UnknownMark, "number", 0, store.back, 0)
        store.mark(), store.mark()
        for value in (2, -1, True, False, None, (0,)):
            self.unchanged(UnknownMark, "number", value, store.back, value)
        self.assertIs(store.back(1), None)

    def test_errors_hold_copies(self):
        for call in (filled().add, filled().carry):
            value = [[1, [2]]]
            with self.assertRaises(WatchzonesError) as caught:
                call(value)
            value[0][1].append(3)
            self.assertEqual(caught.exception.value, [[1, [2]]])

    def test_new_lists(self):
        store = filled()
        store.look(0).append(None)
        store.look(1).clear()
        self.right(store, SCHEME, QUERIES, DATA)
        store.mark()
        store.look(0).clear()
        store.back(0)
        store.look(0).clear()
        self.right(store, SCHEME, QUERIES, DATA)
        self.assertEqual(len({id(some) for some in [store.look(0), store.look(0)]}), 2)

    def test_two_stores_have_nothing_in_common(self):
        one, other = filled(), filled()
        one.carry(("delete", 1, (5,), ()))
        self.right(other, SCHEME, QUERIES, DATA)
        self.right(one, SCHEME, QUERIES, (DATA[0], ()))
