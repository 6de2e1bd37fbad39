"""What the document promises over the whole: objects of all classes beside each other, queries with many cases."""

import copy
import unittest

import oracle
from samples import CROSSED, KEYED, LINE, OTHERS, PAIRS, SCHEME, SQUARES, TWICE, UP, dice, random_change, random_query, same
from watchzones.board import Board
from watchzones.bringing import decide_output, is_decision
from watchzones.cache import Cache
from watchzones.cases import count_cases
from watchzones.databases import carried_out
from watchzones.decisions import decide
from watchzones.errors import TooManyCases
from watchzones.logs import first_fault, is_log, replayed
from watchzones.queries import answer
from watchzones.store import Store
from watchzones.watcherlogs import first_watch_fault, is_watch_log, watches_behind
from watchzones.watchers import Watcher
from watchzones.waynumbers import numbers_of, set_answer
from watchzones.widening import widened

KEYS = ((((0, 3), (0, 3)), (0, 1), ()), (((0, 3),), (0,), ()))
# Three and four parts; 253 cases for the first table, and for the second query 125 for the other one, 378 in sum.
THREE = (((0, (0, 1)), (0, (0, 2)), (0, (0, 3))), ((1, 2, 0), (2, 3, -1)), (0,))
FOUR = (THREE[0] + ((1, (1,)),), THREE[1], (0, 1))
ROWS = (((0, 1), (0, 2), (1, 0)), ((0,), (1,)))
# Four parts of one table have 945 cases; the wide query of the last one has 16 times 253.
SINGLE = (((0, 3),), (0,), ())
TOO_MANY = (tuple((0, (p,)) for p in range(4)), (), (0,))
PAIRED = (KEYS[0], (((0, 3),) * 4, (0,), (((0, 1), 0), ((2, 3), 0))))
NARROW = (((1, (0, 1, 2, 3)), (0, (4, 5))), (), (4,))
CHANGES = [
    ("insert", 0, (0, 3), ()), ("insert", 0, (1, 1), ()), ("delete", 0, (0, 1), ()), ("insert", 1, (2,), ()), ("delete", 1, (1,), ()),
    ("delete", 0, (2, 2), ()), ("insert", 0, (1, 3), ()), ("insert", 0, (2, 0), ()), ("delete", 0, (1, 0), ())]


class Beside(unittest.TestCase):
    """A cache, a store, a watcher and a board beside one database."""

    def start(self, scheme, database, queries):
        self.scheme, self.database, self.queries = scheme, database, queries
        self.cache, self.store = Cache(scheme), Store(scheme, database)
        self.watcher, self.board = Watcher(scheme), Board(scheme, database)
        for number, query in enumerate(queries):
            for some in (self.cache, self.store, self.watcher, self.board):
                self.assertEqual(some.add(query), number)

    def watch(self, outputs):
        """Take in all answers, and watches of these outputs and of some that are there."""
        for number, query in enumerate(self.queries):
            self.cache.take_in(number, answer(self.scheme, query, self.database))
            found = set_answer(self.scheme, query, self.database)
            for output in [*found[:2], *found[-1:], *outputs]:
                if len(output) == len(query[2]):
                    self.watcher.take_in(number, output, output in found)
                    self.assertIs(self.board.subscribe(number, output), output in found)

    def change(self, change):
        """Tell and carry out a change; what is ended is just what can be altered."""
        held, watches = self.cache.held(), self.watcher.held()
        ended = [number for number in held if decide(self.scheme, self.queries[number], change)[0] == "can"]
        self.assertEqual(self.cache.tell(change), ended)
        gone = [(number, output) for number, output, truth in watches if truth != (change[0] == "insert") and decide_output(
            self.scheme, self.queries[number], change, output)[0] == "can"]
        self.assertEqual(self.watcher.tell(change), gone)
        before, self.database = self.database, carried_out(self.scheme, self.database, change)[0]
        hindrance = self.store.carry(change)
        told = self.board.carry(change)
        self.assertEqual(told[0], hindrance)
        moves = []
        for number, query in enumerate(self.queries):
            old, new = [set(set_answer(self.scheme, query, database)) for database in (before, self.database)]
            if old != new:
                moves.append((number, sorted(new - old), sorted(old - new)))
        self.assertTrue(same(told[1], moves))

    def mark(self):
        self.assertEqual(len({some.mark() for some in (self.cache, self.store, self.watcher, self.board)}), 1)

    def back(self, number, database):
        for some in (self.cache, self.store, self.watcher, self.board):
            self.assertIs(some.back(number), None)
        self.database = database

    def holds(self):
        """What all objects still have is right on the database now."""
        self.assertEqual(self.store.tables(), self.database)
        self.assertEqual(self.board.tables(), self.database)
        for number, query in enumerate(self.queries):
            now = answer(self.scheme, query, self.database)
            self.assertEqual(self.store.look(number), now)
            self.assertIn(self.cache.look(number), (None, now))
            self.assertEqual(self.board.counts(number), numbers_of(self.scheme, query, self.database))
        for watches in (self.watcher.held(), self.board.subscribed()):
            for number, output, truth in watches:
                self.assertIs(output in answer(self.scheme, self.queries[number], self.database), truth)

    def logs_hold(self):
        """Both kinds of logs are right, and lead to what is there; none is one of the other kind."""
        log, watch_logs = self.cache.log(), [self.watcher.log(), self.board.watch_log()]
        self.assertIs(is_log(self.scheme, log), True)
        self.assertEqual(replayed(self.scheme, log), (self.queries, [self.cache.look(n) for n in range(len(self.queries))]))
        for told, held in zip(watch_logs, (self.watcher.held(), self.board.subscribed())):
            self.assertIs(is_watch_log(self.scheme, told), True)
            self.assertTrue(same(watches_behind(self.scheme, told), (self.queries, held)))


class TestManyCases(Beside):
    def test_up_to_300_for_a_table_and_more_in_sum(self):
        self.assertEqual([[count_cases(KEYS, query, table) for table in (0, 1)] for query in (THREE, FOUR)], [[253, 0], [253, 125]])
        self.start(KEYS, ROWS, [THREE, FOUR])
        self.watch([(0,), (1,), (3,), (0, 0), (1, 1)])
        self.holds()
        for k, change in enumerate(CHANGES):
            self.change(change)
            self.holds()
            if k == 3:
                self.mark()
                kept = self.database
        self.logs_hold()
        self.back(0, kept)
        self.holds()
        self.logs_hold()

    def test_several_changes_at_once(self):
        self.start(KEYS, ROWS, [THREE, FOUR])
        for output in ((0,), (1,), (3,)):
            self.board.subscribe(0, output)
        self.assertEqual(len(self.board.carry_all([change for change in CHANGES[:5] if change[0] == "insert"])), 3)
        self.assertEqual(self.board.counts(1), numbers_of(KEYS, FOUR, self.board.tables()))
        self.assertIs(is_watch_log(KEYS, self.board.watch_log()), True)

    def refuses(self, scheme, query, number, kinds):
        """These classes refuse a query, and nothing changes; so do the logs of these classes."""
        database = tuple(() for _ in scheme)
        makers = {"cache": lambda: Cache(scheme), "store": lambda: Store(scheme, database), "watcher": lambda: Watcher(scheme),
                  "board": lambda: Board(scheme, database)}
        for kind, maker in makers.items():
            some = maker()
            if kind in kinds:
                with self.assertRaises(TooManyCases) as caught:
                    some.add(query)
                self.assertEqual(caught.exception.number, number)
                few = (query[0][:1], (), ())
                self.assertEqual(some.add(few), 0)
            else:
                self.assertEqual(some.add(query), 0)
        entries = [("mark",), ("add", query)]
        self.assertEqual(first_fault(scheme, entries), 1 if "cache" in kinds else None)
        self.assertEqual(first_watch_fault(scheme, entries), 1 if "watcher" in kinds else None)

    def test_more_for_one_table(self):
        every = ("cache", "store", "watcher", "board")
        self.refuses(LINE, TOO_MANY, 945, every)
        self.refuses((SINGLE, SINGLE), TOO_MANY, 945, every)
        self.refuses((SINGLE, *LINE), (tuple((1, (p,)) for p in range(4)), (), (3,)), 945, every)

    def test_more_for_the_wide_query_alone(self):
        self.assertEqual([count_cases(PAIRED, NARROW, table) for table in (0, 1)], [16, 1])
        self.refuses(PAIRED, NARROW, 16 * 253, ("watcher", "board"))

    def test_more_in_sum_alone(self):
        self.refuses(KEYS, FOUR, None, ())
        for table in (0, 1):
            for change in CHANGES[:5]:
                found = decide_output(KEYS, FOUR, change, (0, 1))
                self.assertIs(is_decision(KEYS, FOUR, change, (0, 1), found), True)


class TestBeside(Beside):
    def test_random_histories(self):
        kept = 0
        for seed in range(40):
            chosen = dice(seed)
            scheme = chosen.choice((SQUARES, KEYED, LINE, CROSSED, TWICE))
            databases = list(oracle.all_databases(scheme))
            queries = [random_query(chosen, scheme, 2, 4) for _ in range(3)]
            queries = [(query[0], query[1][:1], query[2][:2]) for query in queries]
            self.start(scheme, chosen.choice(databases), queries)
            self.watch([(n,) * k for n in (0, 1) for k in (0, 1, 2)])
            marked = []
            for _ in range(12):
                if chosen.random() < 0.2:
                    self.mark()
                    marked.append(self.database)
                elif marked and chosen.random() < 0.2:
                    number = chosen.randrange(len(marked))
                    del marked[number + 1:]
                    self.back(number, marked[number])
                else:
                    self.change(random_change(chosen, scheme, plain=True))
                self.holds()
                kept += len(self.cache.held()) + len(self.watcher.held())
            self.logs_hold()
        self.assertGreater(kept, 500)

    def test_objects_do_not_know_of_each_other(self):
        one, other = Watcher(PAIRS), Watcher(PAIRS)
        one.add(UP), one.take_in(0, (1,), True), one.mark()
        self.assertEqual((other.held(), other.log()), ([], []))
        boards = [Board(PAIRS, ((),)) for _ in range(2)]
        boards[0].add(UP), boards[0].subscribe(0, (1,)), boards[0].carry(("insert", 0, (1, 1), ()))
        self.assertEqual((boards[1].tables(), boards[1].subscribed(), boards[1].watch_log(), len(boards[1])), (((),), [], [], 0))


class TestEquality(unittest.TestCase):
    def test_objects_of_different_classes(self):
        makers = [lambda: Cache(PAIRS), lambda: Watcher(PAIRS), lambda: Store(PAIRS, ((),)), lambda: Board(PAIRS, ((),))]
        for filled in (False, True):
            some = [maker() for maker in makers]
            for each in some if filled else []:
                each.add(UP)
            for j, one in enumerate(some):
                for k, other in enumerate(some):
                    self.assertIs(one == other, j == k)
                    self.assertIs(one != other, j != k)

    def test_no_other_object_is_equal_to_a_cache_or_a_watcher(self):
        cache, watcher = Cache(PAIRS), Watcher(PAIRS)
        self.assertEqual(cache.log(), watcher.log())
        for value in [*OTHERS, PAIRS, SCHEME, cache.log(), ValueError(), object()]:
            for some in (cache, watcher):
                self.assertIs(some == value, False)
                self.assertIs(value == some, False)
        self.assertIs(cache == watcher, False)
        self.assertIs(watcher == cache, False)

    def test_equal_ones_beside_each_other(self):
        for kind in (Cache, Watcher):
            one, other = kind(PAIRS), kind(copy.deepcopy(PAIRS))
            for some in (one, other):
                some.add(UP), some.mark(), some.tell(("insert", 0, (1, 1), ()))
            self.assertIs(one == other, True)
            one.back(0)
            self.assertIs(one == other, False)
