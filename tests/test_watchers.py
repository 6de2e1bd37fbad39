import copy
import unittest

import oracle
from samples import (
    BIG, CROSSED, KEYED, LINE, OTHERS, PAIRS, PUT, SCHEME, SECOND, SERVED, SQUARES, TWICE, UP, dice, lists_in, misshapen,
    random_change, random_query, replaced_by_others, same, spoilt)
from watchzones.bringing import decide_output, is_decision
from watchzones.cache import Cache
from watchzones.cases import count_cases
from watchzones.databases import carried_out, is_change
from watchzones.errors import (
    Disagrees, InvalidChange, InvalidQuery, TooManyCases, UnknownMark, UnknownQuery, WatchzonesError)
from watchzones.queries import is_query
from watchzones.watchererrors import InvalidOutput, InvalidTruth, NotWatched, TooWide
from watchzones.watchers import Watcher
from watchzones.widening import widened

TAKE = ("delete", 0, (1, 1), ())
PUT_LOW = ("insert", 0, (2, 0), ())
NONE = (((0, (0, 1)),), (), ())
TWO = (((0, (0, 1)),), (), (1, 0))
FOUR = (tuple((0, (p,)) for p in range(4)), (), (0,))
KEYS = (((0, 3), (0, 3)), (0, 1), ())
GREATEST = 10 ** 30


def filled():
    """A watcher with four queries and watches of the first, second and last one."""
    watcher = Watcher(PAIRS)
    for query in (UP, SECOND, TWO, NONE):
        watcher.add(query)
    watcher.take_in(1, (1,), False)
    watcher.take_in(0, (1,), False)
    watcher.take_in(0, (2,), True)
    watcher.take_in(3, (), True)
    return watcher


HELD = [(0, (1,), False), (0, (2,), True), (1, (1,), False), (3, (), True)]


class Watchers(unittest.TestCase):
    def state(self, watcher):
        return (watcher.log(), watcher.held())

    def raises(self, kind, held, call, *arguments):
        with self.assertRaises(kind) as caught:
            call(*arguments)
        self.assertIs(type(caught.exception), kind)
        self.assertTrue(same(vars(caught.exception), held), (vars(caught.exception), held))

    def unchanged(self, kind, held, call, *arguments):
        watcher = call.__self__
        before, kept = self.state(watcher), copy.deepcopy(arguments)
        self.raises(kind, held, call, *arguments)
        self.assertTrue(same(self.state(watcher), before))
        self.assertTrue(same(arguments, kept))


class TestCalls(Watchers):
    def test_examples(self):
        watcher = Watcher(PAIRS)
        self.assertEqual(
            [watcher.add(UP), watcher.add(SECOND), watcher.take_in(0, (1,), False), watcher.take_in(1, (1,), False),
             watcher.take_in(1, (2,), True)], [0, 1, None, None, None])
        self.assertEqual([watcher.tell(PUT), watcher.held(), watcher.look(0, (1,))],
                         [[(0, (1,))], [(1, (1,), False), (1, (2,), True)], None])
        self.raises(NotWatched, {"number": 0, "output": (1,)}, watcher.drop, 0, (1,))

    def test_a_new_watcher(self):
        watcher = Watcher(PAIRS)
        self.assertEqual((watcher.held(), watcher.log()), ([], []))
        self.assertEqual(watcher.tell(PUT), [])
        self.assertEqual(watcher.log(), [("tell", PUT, ())])

    def test_queries_are_numbered_as_they_come(self):
        watcher = Watcher(PAIRS)
        self.assertEqual([watcher.add(query) for query in (UP, UP, TWO)], [0, 1, 2])
        watcher.take_in(1, (1,), True)
        self.assertEqual([watcher.look(0, (1,)), watcher.look(1, (1,)), watcher.look(2, (1, 1))], [None, True, None])

    def test_watches(self):
        watcher = filled()
        self.assertTrue(same(watcher.held(), HELD))
        self.assertIs(watcher.look(0, (1,)), False)
        self.assertIs(watcher.look(0, (2,)), True)
        self.assertIs(watcher.look(0, (0,)), None)
        self.assertIs(watcher.look(1, (2,)), None)
        self.assertIs(watcher.look(3, ()), True)
        self.assertIs(watcher.look(2, (1, 2)), None)

    def test_held_is_ascending(self):
        watcher = Watcher(PAIRS)
        for _ in range(3):
            watcher.add(TWO)
        some = [(2, (0, 0), True), (0, (5, -3), False), (1, (9, 9), True), (0, (-5, 7), True), (0, (5, -4), True), (2, (-1, 4), False)]
        for watch in some:
            watcher.take_in(*watch)
        self.assertTrue(same(watcher.held(), sorted(some)))

    def test_a_watch_that_stands_with_the_same_truth_stays(self):
        watcher = filled()
        self.assertIs(watcher.take_in(0, (1,), False), None)
        self.assertIs(watcher.take_in(3, (), True), None)
        self.assertTrue(same(watcher.held(), HELD))
        self.assertEqual(watcher.log()[-2:], [("take in", 0, (1,), False), ("take in", 3, (), True)])

    def test_drop(self):
        watcher = filled()
        self.assertIs(watcher.drop(0, (2,)), None)
        self.assertIs(watcher.drop(3, ()), None)
        self.assertEqual(watcher.held(), [HELD[0], HELD[2]])
        self.assertEqual(watcher.log()[-2:], [("drop", 0, (2,)), ("drop", 3, ())])
        watcher.take_in(0, (2,), False)
        self.assertIs(watcher.look(0, (2,)), False)

    def test_outputs_beyond_the_bounds(self):
        watcher = Watcher(PAIRS)
        watcher.add(TWO)
        some = [(0, (-GREATEST, GREATEST), True), (0, (3, 0), False), (0, (GREATEST, -GREATEST), False)]
        for watch in some:
            self.assertIs(watcher.take_in(*watch), None)
        self.assertTrue(same(watcher.held(), some))
        for change in (PUT, TAKE):
            self.assertEqual(watcher.tell(change), [])

    def test_a_change_ends_watches(self):
        watcher = filled()
        self.assertEqual(watcher.tell(PUT), [(0, (1,))])
        self.assertEqual(watcher.held(), HELD[1:])
        self.assertEqual(watcher.tell(PUT), [])
        self.assertEqual(watcher.tell(TAKE), [(3, ())])
        self.assertEqual(watcher.tell(("delete", 0, (2, 1), ())), [(0, (2,))])
        self.assertEqual(watcher.tell(("insert", 0, (1, 2), ())), [(1, (1,))])
        self.assertEqual((watcher.held(), watcher.look(0, (1,))), ([], None))

    def test_ended_ones_are_ascending(self):
        watcher = Watcher(PAIRS)
        for _ in range(3):
            watcher.add(NONE)
        watcher.add(TWO)
        for number in (2, 0, 1):
            watcher.take_in(number, (), False)
        watcher.take_in(3, (1, 1), False)
        watcher.take_in(3, (0, 2), False)
        self.assertEqual(watcher.tell(PUT), [(0, ()), (1, ()), (2, ()), (3, (1, 1))])
        self.assertEqual(watcher.tell(PUT_LOW), [(3, (0, 2))])

    def test_an_insertion_ends_no_true_watch_and_a_deletion_no_false_one(self):
        for query in (UP, SECOND, TWO, NONE):
            for change in oracle.plain_changes(PAIRS):
                watcher = Watcher(PAIRS)
                watcher.add(query)
                outputs = [(n,) * len(query[2]) for n in range(-1, 4)]
                for output in outputs:
                    watcher.take_in(0, output, change[0] == "insert")
                held = watcher.held()
                self.assertEqual(watcher.tell(change), [])
                self.assertEqual(watcher.held(), held)
                papers = watcher.log()[-1][2]
                self.assertEqual(papers, tuple((number, output, ("way",)) for number, output, _ in held))

    def test_marks(self):
        watcher = filled()
        self.assertEqual([watcher.mark(), watcher.mark()], [0, 1])
        watcher.tell(PUT)
        self.assertEqual(watcher.mark(), 2)
        watcher.drop(0, (2,))
        self.assertEqual(watcher.add(UP), 4)
        watcher.take_in(4, (0,), True)
        self.assertIs(watcher.back(2), None)
        self.assertEqual(watcher.held(), HELD[1:])
        self.raises(UnknownQuery, {"number": 4}, watcher.look, 4, (0,))
        self.assertIs(watcher.back(0), None)
        self.assertTrue(same(watcher.held(), HELD))
        self.raises(UnknownMark, {"number": 1}, watcher.back, 1)
        self.raises(UnknownMark, {"number": 2}, watcher.back, 2)
        self.assertEqual(watcher.mark(), 1)

    def test_back_to_the_same_mark_again(self):
        watcher = Watcher(PAIRS)
        self.assertEqual(watcher.mark(), 0)
        for truth in (True, False, True):
            self.assertEqual(watcher.add(UP), 0)
            watcher.take_in(0, (1,), truth)
            self.assertIs(watcher.look(0, (1,)), truth)
            watcher.back(0)
            self.assertEqual(watcher.held(), [])
            self.raises(UnknownQuery, {"number": 0}, watcher.look, 0, (1,))
        watcher = filled()
        watcher.mark()
        for _ in range(3):
            self.assertEqual(watcher.tell(PUT), [(0, (1,))])
            watcher.drop(3, ())
            watcher.take_in(0, (1,), True)
            watcher.back(0)
            self.assertTrue(same(watcher.held(), HELD))

    def test_the_log(self):
        watcher = filled()
        watcher.mark()
        watcher.drop(3, ())
        watcher.back(0)
        watcher.tell(PUT)
        watcher.look(0, (1,)), watcher.held(), watcher.log()
        log = watcher.log()
        self.assertTrue(same(log[:11], [
            ("add", UP), ("add", SECOND), ("add", TWO), ("add", NONE), ("take in", 1, (1,), False), ("take in", 0, (1,), False),
            ("take in", 0, (2,), True), ("take in", 3, (), True), ("mark",), ("drop", 3, ()), ("back", 0)]))
        self.assertEqual(len(log), 12)
        word, change, papers = log[11]
        self.assertEqual((word, change, type(papers)), ("tell", PUT, tuple))
        self.assertEqual([item[:2] for item in papers], [watch[:2] for watch in HELD])
        self.assertEqual([item[2][0] for item in papers], ["can", "way", "never", "way"])
        for (number, output, paper), query in zip(papers, (UP, UP, SECOND, NONE)):
            if paper[0] == "way":
                self.assertTrue(same(paper, ("way",)))
            else:
                self.assertIs(is_decision(PAIRS, query, PUT, output, paper), True)

    def test_an_example_of_a_way(self):
        watcher = Watcher(PAIRS)
        self.assertEqual(
            [watcher.add(UP), watcher.take_in(0, (1,), True), watcher.tell(PUT), watcher.log()[2]],
            [0, None, [], ("tell", PUT, ((0, (1,), ("way",)),))])


class TestEnding(Watchers):
    """A change ends just the watches that [25] says, by all databases of very small schemes."""

    def ends(self, scheme, seeds, parts):
        databases = list(oracle.all_databases(scheme))
        seen = {}
        for seed in seeds:
            chosen = dice(seed)
            query = random_query(chosen, scheme, parts, 4)
            query = (query[0], query[1][:2], query[2][:2])
            if len(oracle.wide_parts(scheme, query)) > 4 or max(
                    count_cases(scheme, widened(scheme, query), table) for table in range(len(scheme))) > 300:
                continue
            movements = oracle.Movements(scheme, databases, query)
            outputs = [*movements.outputs[:3], tuple(-1 for _ in query[2])]
            for _ in range(3):
                change = random_change(chosen, scheme, plain=True)
                watcher = Watcher(scheme)
                watcher.add(query)
                for output in outputs:
                    if watcher.look(0, output) is None:
                        watcher.take_in(0, output, chosen.random() < 0.5)
                held = watcher.held()
                expected = [(number, output) for number, output, truth in held if movements.ends(change, output, truth)]
                self.assertEqual(watcher.tell(change), expected)
                self.assertEqual(watcher.held(), [watch for watch in held if watch[:2] not in expected])
                for watch in held:
                    key = (change[0], watch[2], watch[:2] in expected)
                    seen[key] = seen.get(key, 0) + 1
        self.assertEqual(len(seen), 6, seen)
        self.assertGreater(min(seen.values()), 2)

    def test_keys_of_two_columns(self):
        self.ends(SQUARES, range(120), 2)

    def test_keys_of_one_column(self):
        self.ends(KEYED, range(120), 2)
        self.ends(LINE, range(60), 3)

    def test_references(self):
        self.ends(CROSSED, range(60), 2)
        self.ends(TWICE, range(60), 2)

    def test_whatever_was_told_before(self):
        for many in range(4):
            watcher = filled()
            for _ in range(many):
                watcher.tell(PUT_LOW)
                watcher.tell(("delete", 0, (0, 0), ()))
            self.assertEqual(watcher.tell(PUT), [(0, (1,))])


class TestErrors(Watchers):
    def test_add(self):
        watcher = filled()
        wrong = [*OTHERS, *misshapen(UP), *[value for value in replaced_by_others(UP) if not is_query(PAIRS, value)]]
        wrong += [(((1, (0, 1)),), (), ()), (((0, (0, 16)),), (), ()), (((0, (0, 1)),), (), (2,)), UP[:2], (*UP, ())]
        for value in wrong:
            self.unchanged(InvalidQuery, {"value": value}, watcher.add, value)
        self.assertEqual(watcher.add(SECOND), 4)

    def test_add_that_is_too_wide(self):
        watcher = Watcher(SCHEME)
        query = (((1, (0, 1, 2)), (0, (3, 4)), (0, (5, 6)), (0, (7, 8))), (), (3,))
        self.unchanged(TooWide, {"query": query}, watcher.add, query)
        self.assertEqual(watcher.add((query[0][:3], (), (3,))), 0)
        self.assertEqual(watcher.add(((*query[0][:3], (0, (1, 7))), (), ())), 1)

    def test_add_with_too_many_cases(self):
        watcher = Watcher(LINE)
        self.unchanged(TooManyCases, {"number": 945}, watcher.add, FOUR)
        self.assertEqual(watcher.add((FOUR[0][:3], (), (0,))), 0)

    def test_add_with_too_many_cases_of_the_wide_query(self):
        scheme = (KEYS, (((0, 3),) * 4, (0,), (((0, 1), 0), ((2, 3), 0))))
        query = (((1, (0, 1, 2, 3)), (0, (4, 5))), (), (4,))
        self.assertEqual([count_cases(scheme, query, table) for table in (0, 1)], [16, 1])
        self.unchanged(TooManyCases, {"number": 16 * 253}, Watcher(scheme).add, query)
        self.assertEqual(Cache(scheme).add(query), 0)

    def test_the_number_is_the_greatest_one_of_all_tables(self):
        first = (((0, 3),), (0,), ())
        twice = (((0, 3), (0, 3)), (0, 1), (((0,), 0), ((1,), 0)))
        parts = ((0, (0,)), (1, (0, 0)), (1, (0, 0)), (2, (0, 0)))
        scheme = (first, twice, twice)
        for query in ((parts, (), ()), (parts[::-1], (), (0,))):
            numbers = [count_cases(scheme, query, table) for table in (0, 1, 2)]
            self.assertEqual(numbers, [320, 9, 5])
            self.unchanged(TooManyCases, {"number": 320}, Watcher(scheme).add, query)
        scheme = (first, KEYS, KEYS)
        query = (((1, (0, 1)), (1, (2, 3)), (1, (4, 5)), (1, (6, 7))), (), ())
        self.unchanged(TooManyCases, {"number": max(count_cases(scheme, query, table) for table in range(3))}, Watcher(scheme).add, query)

    def test_unknown_queries(self):
        watcher = filled()
        wrong = [value for value in OTHERS if not (type(value) is int and 0 <= value < 4)]
        for value in [*wrong, 4, -1, 10 ** 29, True, False, "0", (0,), [0]]:
            for output in ((1,), None):
                self.unchanged(UnknownQuery, {"number": value}, watcher.take_in, value, output, True)
                self.unchanged(UnknownQuery, {"number": value}, watcher.take_in, value, output, 7)
                self.unchanged(UnknownQuery, {"number": value}, watcher.drop, value, output)
                self.unchanged(UnknownQuery, {"number": value}, watcher.look, value, output)

    def test_invalid_outputs(self):
        watcher = filled()
        wrong = [value for value in OTHERS if not (type(value) is tuple and len(value) == 2 and all(type(n) is int for n in value))]
        wrong += [*misshapen((0, 1)), (1,), (1, 2, 3), [1, 2], (1, None), (True, 1), (1, "2"), ((1, 2),), (1, (2,)),
                  (GREATEST + 1, 0), (0, -GREATEST - 1), {1: 2}]
        for value in wrong:
            for truth in (True, None):
                self.unchanged(InvalidOutput, {"value": value}, watcher.take_in, 2, value, truth)
            self.unchanged(InvalidOutput, {"value": value}, watcher.drop, 2, value)
            self.unchanged(InvalidOutput, {"value": value}, watcher.look, 2, value)
        for value in ((0,), [], None, 0):
            self.unchanged(InvalidOutput, {"value": value}, watcher.look, 3, value)

    def test_invalid_truths(self):
        watcher = filled()
        for value in [*[value for value in OTHERS if not isinstance(value, bool)], 0, 1, "True", (True,), [False], None]:
            for number, output in ((0, (0,)), (0, (1,)), (0, (2,)), (3, ())):
                self.unchanged(InvalidTruth, {"value": value}, watcher.take_in, number, output, value)

    def test_disagrees(self):
        watcher = filled()
        for number, output, truth in HELD:
            self.unchanged(Disagrees, {"number": number}, watcher.take_in, number, output, not truth)
        watcher.mark()
        watcher.drop(0, (1,))
        watcher.take_in(0, (1,), True)
        self.unchanged(Disagrees, {"number": 0}, watcher.take_in, 0, (1,), False)
        watcher.back(0)
        self.unchanged(Disagrees, {"number": 0}, watcher.take_in, 0, (1,), True)
        self.assertIs(watcher.take_in(0, (1,), False), None)

    def test_not_watched(self):
        watcher = filled()
        for number, output in ((0, (0,)), (1, (2,)), (2, (1, 1)), (0, (GREATEST,))):
            self.unchanged(NotWatched, {"number": number, "output": output}, watcher.drop, number, output)
        watcher.drop(0, (1,))
        self.unchanged(NotWatched, {"number": 0, "output": (1,)}, watcher.drop, 0, (1,))

    def test_tell(self):
        watcher = filled()
        wrong = [*OTHERS, *misshapen(PUT), *misshapen(TAKE)]
        wrong += [value for value in replaced_by_others(PUT) if not is_change(PAIRS, value)]
        wrong += [("insert", 0, (1, "a"), ()), ("delete", 0, ("d", 1), ()), ("insert", 0, ("a", "a"), (("a", None, 3),)),
                  ("delete", 0, (1, 1), (("a", None, 3),)), ("insert", 0, (1,), ()), ("insert", 0, (3, 1), ()),
                  ("delete", 1, (1, 1), ()), ("insert", 0, (1, 1))]
        for value in wrong:
            self.unchanged(InvalidChange, {"value": value}, watcher.tell, value)

    def test_back(self):
        watcher = filled()
        self.unchanged(UnknownMark, {"number": 0}, watcher.back, 0)
        watcher.mark(), watcher.mark()
        for value in [*[value for value in OTHERS if not (type(value) is int and 0 <= value < 2)], 2, -1, True, False, "0", None]:
            self.unchanged(UnknownMark, {"number": value}, watcher.back, value)
        self.assertIs(watcher.back(1), None)

    def test_errors_hold_copies(self):
        value = [[1, [2]]]
        for call in (Watcher(PAIRS).add, Watcher(PAIRS).tell, lambda value: filled().take_in(0, value, True),
                     lambda value: filled().take_in(0, (1,), value), lambda value: filled().drop(0, value),
                     lambda value: filled().look(0, value)):
            with self.assertRaises(WatchzonesError) as caught:
                call(value)
            value[0][1].append(3)
            self.assertEqual(caught.exception.value, [[1, [2]]])
            value[0][1].pop()


class TestCopies(Watchers):
    def test_what_was_told_may_be_changed_afterwards(self):
        watcher = filled()
        watcher.mark()
        watcher.tell(PUT)
        watcher.tell(TAKE)
        before = copy.deepcopy(self.state(watcher))
        for told in (watcher.held(), watcher.log(), watcher.tell(PUT_LOW)):
            spoilt(told)
        self.assertTrue(same((watcher.log()[:-1], watcher.held()), before))
        watcher.back(0)
        self.assertTrue(same(watcher.held(), HELD))

    def test_no_two_lists_are_one(self):
        watcher = filled()
        watcher.tell(PUT)
        watcher.tell(PUT_LOW)
        found = lists_in([watcher.log(), watcher.log(), watcher.held(), watcher.held(), watcher.tell(PUT)])
        self.assertEqual(len({id(some) for some in found}), len(found))
        self.assertGreater(len(found), 30)

    def test_arguments_are_as_before(self):
        arguments = (PAIRS, UP, SECOND, TWO, NONE, PUT, TAKE)
        before = copy.deepcopy(arguments)
        filled().tell(PUT)
        self.assertTrue(same(arguments, before))


class TestEquality(Watchers):
    def differ(self, one, other):
        for some, another in ((one, other), (other, one)):
            self.assertIs(some == another, False)
            self.assertIs(some != another, True)

    def equal(self, one, other):
        for some, another in ((one, other), (other, one)):
            self.assertIs(some == another, True)
            self.assertIs(some != another, False)

    def test_equal_calls(self):
        self.equal(Watcher(PAIRS), Watcher(copy.deepcopy(PAIRS)))
        one, other = filled(), filled()
        self.equal(one, other)
        self.equal(one, one)
        for change in (PUT, TAKE, PUT_LOW):
            one.tell(change)
            self.differ(one, other)
            other.tell(change)
            self.equal(one, other)

    def test_questions_between_and_refused_calls(self):
        one, other = filled(), filled()
        one.look(0, (1,)), one.held(), one.log()
        for call, arguments in ((one.add, (None,)), (one.look, (9, ())), (one.tell, ((),)), (one.back, (0,)), (one.drop, (0, (0,))),
                                (one.take_in, (0, (1,), True)), (one.take_in, (0, (1,), None)), (one.take_in, (0, (), True))):
            with self.assertRaises(WatchzonesError):
                call(*arguments)
        self.equal(one, other)

    def test_other_schemes(self):
        self.differ(Watcher(PAIRS), Watcher(SCHEME))
        self.differ(Watcher(PAIRS), Watcher(SQUARES))
        self.differ(Watcher(SCHEME), Watcher(SCHEME[:1]))

    def test_other_calls(self):
        one = filled()
        for call, arguments in (("add", (UP,)), ("take_in", (0, (1,), False)), ("take_in", (2, (1, 1), True)), ("drop", (3, ())),
                                ("tell", (PUT,)), ("mark", ())):
            other = filled()
            getattr(other, call)(*arguments)
            self.differ(one, other)
        for truth in (True, False):
            one, other = filled(), filled()
            one.take_in(0, (0,), truth), other.take_in(0, (0,), not truth)
            self.differ(one, other)
        one, other = filled(), filled()
        one.drop(3, ()), one.take_in(3, (), True)
        self.assertEqual(one.held(), other.held())
        self.differ(one, other)

    def test_logs_count_and_not_what_is_there_now(self):
        one, other = filled(), filled()
        one.mark(), one.add(UP), one.back(0)
        other.mark()
        self.assertEqual(one.held(), other.held())
        self.differ(one, other)

    def test_other_values(self):
        watcher = Watcher(PAIRS)
        for value in [*OTHERS, PAIRS, watcher.log(), object(), Watcher, Cache(PAIRS)]:
            self.assertIs(watcher == value, False)
            self.assertIs(value == watcher, False)
            self.assertIs(watcher != value, True)


class Record:
    """What a watcher is to have, by hand: everything is copied at each mark."""

    def __init__(self, scheme, databases):
        self.scheme, self.databases, self.queries, self.watches, self.marks, self.words = scheme, databases, [], {}, [], []
        self.movements = {}

    def moves(self, query):
        if query not in self.movements:
            self.movements[query] = oracle.Movements(self.scheme, self.databases, query)
        return self.movements[query]

    def held(self):
        return sorted((*watch, truth) for watch, truth in self.watches.items())

    def tell(self, change):
        ended = [watch for watch, truth in sorted(self.watches.items())
                 if self.moves(self.queries[watch[0]]).ends(change, watch[1], truth)]
        for watch in ended:
            del self.watches[watch]
        return ended

    def mark(self):
        self.marks.append(copy.deepcopy((self.queries, self.watches)))
        return len(self.marks) - 1

    def back(self, number):
        self.queries, self.watches = copy.deepcopy(self.marks[number])
        del self.marks[number + 1:]


class TestHistories(Watchers):
    """Calls one after the other, right and wrong ones, against a record by hand and beside a database."""

    def step(self, chosen, scheme, watcher, record, database, marked):
        word = chosen.choice(("add", "take in", "take in", "take in", "drop", "tell", "tell", "tell", "mark", "back", "wrong"))
        without = {"take in": not record.queries, "drop": not record.watches, "back": not record.marks}
        if word == "wrong" or without.get(word):
            self.wrong_step(watcher, record)
            return database
        if word == "add":
            query = random_query(chosen, scheme, 2, 4)
            query = (query[0], query[1][:2], query[2][:2])
            self.assertEqual(watcher.add(query), len(record.queries))
            record.queries.append(query)
        elif word == "take in":
            number = chosen.randrange(len(record.queries))
            found = set(oracle.outputs(scheme, record.queries[number], database))
            output = chosen.choice([*sorted(found), tuple(chosen.randint(0, 1) for _ in record.queries[number][2])])
            self.assertIs(watcher.take_in(number, output, output in found), None)
            record.watches[(number, output)] = output in found
        elif word == "drop":
            watch = chosen.choice(sorted(record.watches))
            self.assertIs(watcher.drop(*watch), None)
            del record.watches[watch]
        elif word == "tell":
            change = random_change(chosen, scheme, plain=True)
            self.assertEqual(watcher.tell(change), record.tell(change))
            database = carried_out(scheme, database, change)[0]
        elif word == "mark":
            self.assertEqual(watcher.mark(), record.mark())
            marked.append(database)
        else:
            number = chosen.randrange(len(record.marks))
            self.assertIs(watcher.back(number), None)
            record.back(number)
            del marked[number + 1:]
            database = marked[number]
        record.words.append(word)
        return database

    def wrong_step(self, watcher, record):
        before = watcher.log()
        many = len(record.queries)
        self.raises(UnknownQuery, {"number": many}, watcher.look, many, ())
        self.raises(UnknownQuery, {"number": many}, watcher.take_in, many, (), True)
        self.raises(UnknownMark, {"number": len(record.marks)}, watcher.back, len(record.marks))
        self.raises(InvalidQuery, {"value": 0}, watcher.add, 0)
        self.raises(InvalidChange, {"value": ()}, watcher.tell, ())
        for (number, output), truth in record.watches.items():
            self.raises(Disagrees, {"number": number}, watcher.take_in, number, output, not truth)
            self.raises(InvalidTruth, {"value": int(truth)}, watcher.take_in, number, output, int(truth))
            self.raises(InvalidOutput, {"value": (*output, 0)}, watcher.drop, number, (*output, 0))
        self.assertTrue(same(watcher.log(), before))

    def test_random_histories(self):
        kept = 0
        databases = {scheme: list(oracle.all_databases(scheme)) for scheme in (SQUARES, KEYED, LINE, CROSSED)}
        for seed in range(60):
            chosen = dice(seed)
            scheme = chosen.choice((SQUARES, KEYED, LINE) if seed % 6 else (CROSSED,))
            watcher, record, marked = Watcher(scheme), Record(scheme, databases[scheme]), []
            database = chosen.choice(databases[scheme])
            for _ in range(25):
                database = self.step(chosen, scheme, watcher, record, database, marked)
                self.assertTrue(same(watcher.held(), record.held()))
                self.assertEqual([entry[0] for entry in watcher.log()], record.words)
                # Each watch that stands is true on the database now.
                for number, output, truth in watcher.held():
                    self.assertIs(output in oracle.outputs(scheme, record.queries[number], database), truth)
                    self.assertIs(watcher.look(number, output), truth)
                    kept += 1
        self.assertGreater(kept, 1000)

    def test_equal_histories_give_equal_watchers(self):
        databases = list(oracle.all_databases(SQUARES))
        for seed in range(10):
            watchers = []
            for _ in range(2):
                chosen = dice(seed)
                watcher, record, marked = Watcher(SQUARES), Record(SQUARES, databases), []
                database = chosen.choice(databases)
                for _ in range(15):
                    database = self.step(chosen, SQUARES, watcher, record, database, marked)
                watchers.append((watcher, watcher.log()))
            self.assertTrue(watchers[0][0] == watchers[1][0])
            self.assertTrue(same(watchers[0][1], watchers[1][1]))

    def test_papers_are_what_decide_output_returns(self):
        watcher = Watcher(SCHEME)
        for query in (BIG, SERVED):
            watcher.add(query)
        watcher.take_in(0, (5,), False)
        watcher.take_in(0, (6,), True)
        watcher.take_in(1, (), True)
        for change in (("insert", 1, (5, 3, 600), ()), ("insert", 0, (4, 9), ()), ("delete", 1, (5,), ()), ("delete", 0, (3,), ())):
            held = watcher.held()
            watcher.tell(change)
            for (number, output, paper), (_, _, truth) in zip(watcher.log()[-1][2], held):
                way = truth == (change[0] == "insert")
                expected = ("way",) if way else decide_output(SCHEME, (BIG, SERVED)[number], change, output)
                self.assertTrue(same(paper, expected))
