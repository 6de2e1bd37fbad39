import copy
import unittest

from samples import (
    BIG, DATA, OTHERS, SCHEME, WIDE, dice, misshapen, random_change, random_database, random_query, random_scheme,
    replaced_by_others, same)
from watchzones.cache import Cache
from watchzones.cases import count_cases
from watchzones.databases import carried_out, is_change
from watchzones.decisions import decide, is_counterexample, is_refutation
from watchzones.errors import (
    Disagrees, InvalidAnswer, InvalidChange, InvalidQuery, TooManyCases, UnknownMark, UnknownQuery, WatchzonesError)
from watchzones.queries import answer, is_query
from watchzones.zones import hit

SMALL = (((0, (0, 1)),), ((1, None, 4),), (1, 0))
ALL = (((1, (0, 1, 2)),), (), ())
PUT_SMALL = ("insert", 0, (4, 9), ())
PUT_BIG = ("insert", 1, (6, 3, 500), ())
TAKE_BIG = ("delete", 1, (6,), ())
NEVER = [[("reference apart", 0, 0), ("takes", 1, 0, 1)], [("takes", 1, 0, 0), ("reference apart", 0, 0)]]


def filled():
    """A cache with three queries; the first two have an answer."""
    cache = Cache(SCHEME)
    for query in (BIG, SMALL, ALL):
        cache.add(query)
    cache.take_in(0, [(5,), (5,), (7,)])
    cache.take_in(1, [])
    return cache


class Record:
    """What a cache is to have, by hand: everything is copied at each mark."""

    def __init__(self, scheme):
        self.scheme, self.queries, self.answers, self.marks, self.words = scheme, [], [], [], []

    def tell(self, change):
        ended = [k for k, rows in enumerate(self.answers)
                 if rows is not None and decide(self.scheme, self.queries[k], change)[0] == "can"]
        for k in ended:
            self.answers[k] = None
        return ended

    def mark(self):
        self.marks.append(copy.deepcopy((self.queries, self.answers)))
        return len(self.marks) - 1

    def back(self, number):
        self.queries, self.answers = copy.deepcopy(self.marks[number])
        del self.marks[number + 1:]


class Caches(unittest.TestCase):
    def state(self, cache, many):
        return (cache.log(), cache.held(), [cache.look(number) for number in range(many)])

    def raises(self, kind, name, held, call, *arguments):
        with self.assertRaises(kind) as caught:
            call(*arguments)
        self.assertIs(type(caught.exception), kind)
        self.assertTrue(same(getattr(caught.exception, name), held), (getattr(caught.exception, name), held))


class TestCalls(Caches):
    def test_examples(self):
        cache = Cache(SCHEME)
        self.assertEqual(
            [cache.add(BIG), cache.take_in(0, [(5,)]), cache.tell(PUT_SMALL), cache.look(0), cache.tell(PUT_BIG), cache.look(0)],
            [0, None, [], [(5,)], [0], None])
        self.raises(UnknownQuery, "number", 0, Cache(SCHEME).look, 0)

    def test_a_new_cache(self):
        cache = Cache(SCHEME)
        self.assertEqual((cache.held(), cache.log(), cache.watchers(0, (1, 1))), ([], [], []))
        self.assertEqual(cache.tell(PUT_BIG), [])
        self.assertEqual(cache.log(), [("tell", PUT_BIG, ())])

    def test_queries_are_numbered_and_have_no_answer_at_first(self):
        cache = Cache(SCHEME)
        self.assertEqual([cache.add(query) for query in (BIG, SMALL, BIG)], [0, 1, 2])
        self.assertEqual([cache.look(number) for number in range(3)], [None, None, None])
        self.assertEqual(cache.held(), [])

    def test_answers(self):
        cache = filled()
        self.assertEqual(cache.held(), [0, 1])
        self.assertEqual([cache.look(number) for number in range(3)], [[(5,), (5,), (7,)], [], None])
        self.assertIs(cache.take_in(2, [(), ()]), None)
        self.assertEqual((cache.held(), cache.look(2)), ([0, 1, 2], [(), ()]))

    def test_equal_queries_have_their_own_answers(self):
        cache = Cache(SCHEME)
        self.assertEqual([cache.add(BIG), cache.add(BIG)], [0, 1])
        cache.take_in(1, [(5,)])
        self.assertEqual([cache.look(0), cache.look(1), cache.held()], [None, [(5,)], [1]])
        cache.take_in(0, [(6,)])
        self.assertEqual(cache.tell(PUT_BIG), [0, 1])

    def test_the_answer_that_it_has_may_be_taken_in(self):
        cache = filled()
        self.assertIs(cache.take_in(0, [(5,), (5,), (7,)]), None)
        self.assertIs(cache.take_in(1, []), None)
        self.assertEqual(cache.log()[-2:], [("take in", 0, [(5,), (5,), (7,)]), ("take in", 1, [])])
        cache.tell(PUT_BIG)
        self.assertIs(cache.take_in(0, [(9,)]), None)
        self.assertEqual(cache.look(0), [(9,)])

    def test_answers_may_be_wrong(self):
        # The cache has no database; numbers may lie beyond the bounds.
        cache = filled()
        cache.take_in(2, [()] * 1000)
        cache.tell(PUT_BIG)
        cache.take_in(0, [(-10 ** 29,), (1000,), (10 ** 29,)])
        self.assertEqual(cache.look(0), [(-10 ** 29,), (1000,), (10 ** 29,)])

    def test_a_change_ends_answers(self):
        cache = filled()
        cache.take_in(2, [()])
        self.assertEqual(cache.tell(("insert", 1, (6, 3, 499), ())), [2])
        self.assertEqual(cache.held(), [0, 1])
        self.assertEqual(cache.tell(("insert", 1, (6, 3, 499), ())), [])
        self.assertEqual(cache.tell(PUT_SMALL), [])
        self.assertEqual(cache.tell(("insert", 0, (4, 4), ())), [1])
        self.assertEqual(cache.tell(TAKE_BIG), [0])
        self.assertEqual((cache.held(), [cache.look(n) for n in range(3)]), ([], [None] * 3))

    def test_a_change_ends_just_the_answers_whose_query_it_can_alter(self):
        for seed in range(150):
            chosen = dice(seed)
            scheme = random_scheme(chosen)
            cache = Cache(scheme)
            queries = [random_query(chosen, scheme) for _ in range(4)]
            for number, query in enumerate(queries):
                cache.add(query)
                if chosen.random() < 0.7:
                    cache.take_in(number, answer(scheme, query, random_database(chosen, scheme)))
            for _ in range(3):
                change, held = random_change(chosen, scheme, plain=True), cache.held()
                expected = [number for number in held if decide(scheme, queries[number], change)[0] == "can"]
                self.assertEqual(cache.tell(change), expected)
                self.assertEqual(cache.held(), [number for number in held if number not in expected])

    def test_watchers(self):
        cache = filled()
        self.assertEqual(cache.watchers(1, (5, 3, 600)), [0, 2])
        self.assertEqual(cache.watchers(1, (5, 3, 400)), [2])
        self.assertEqual([cache.watchers(0, (3, n)) for n in (4, 5)], [[1], []])
        cache.tell(PUT_BIG)
        self.assertEqual(cache.watchers(1, (5, 3, 600)), [0, 2])
        self.assertEqual(len(cache.log()), 6)

    def test_watchers_against_hit(self):
        some = 0
        for seed in range(120):
            chosen = dice(seed)
            scheme = random_scheme(chosen)
            cache = Cache(scheme)
            queries = [random_query(chosen, scheme) for _ in range(4)]
            for query in queries:
                cache.add(query)
            for _ in range(6):
                word, table, row, _ = random_change(chosen, scheme, plain=True)
                if word == "insert":
                    expected = [n for n, query in enumerate(queries) if hit(scheme, query, table, row) != []]
                    self.assertEqual(cache.watchers(table, row), expected)
                    some += 0 < len(expected) < 4
        self.assertGreater(some, 80)

    def test_marks(self):
        cache = filled()
        self.assertEqual([cache.mark(), cache.mark()], [0, 1])
        cache.tell(PUT_BIG)
        self.assertEqual(cache.mark(), 2)
        cache.take_in(0, [(1,)])
        self.assertEqual(cache.add(SMALL), 3)
        cache.take_in(3, [(1, 2)])
        self.assertIs(cache.back(2), None)
        self.assertEqual((cache.held(), cache.look(0)), ([1], None))
        self.raises(UnknownQuery, "number", 3, cache.look, 3)
        self.assertIs(cache.back(0), None)
        self.assertEqual((cache.held(), cache.look(0)), ([0, 1], [(5,), (5,), (7,)]))
        self.raises(UnknownMark, "number", 1, cache.back, 1)
        self.raises(UnknownMark, "number", 2, cache.back, 2)
        self.assertEqual(cache.mark(), 1)

    def test_back_to_the_same_mark_again(self):
        cache = Cache(SCHEME)
        self.assertEqual(cache.mark(), 0)
        for rows in ([(1,)], [(2,), (3,)], []):
            self.assertEqual(cache.add(BIG), 0)
            cache.take_in(0, rows)
            self.assertEqual(cache.look(0), rows)
            cache.back(0)
            self.assertEqual(cache.held(), [])
            self.raises(UnknownQuery, "number", 0, cache.look, 0)
        cache = filled()
        cache.mark()
        for _ in range(3):
            self.assertEqual(cache.tell(PUT_BIG), [0])
            cache.back(0)
            self.assertEqual(cache.look(0), [(5,), (5,), (7,)])

    def test_nothing_is_taken_out_of_the_log(self):
        cache = filled()
        cache.mark()
        cache.add(SMALL)
        cache.back(0)
        self.assertEqual(cache.log(), [
            ("add", BIG), ("add", SMALL), ("add", ALL), ("take in", 0, [(5,), (5,), (7,)]), ("take in", 1, []), ("mark",),
            ("add", SMALL), ("back", 0)])

    def test_the_log_has_papers_for_just_the_queries_that_had_an_answer(self):
        cache = filled()
        cache.tell(PUT_SMALL)
        cache.take_in(2, [])
        cache.tell(PUT_BIG)
        cache.tell(TAKE_BIG)
        told = [entry for entry in cache.log() if entry[0] == "tell"]
        self.assertEqual([entry[1] for entry in told], [PUT_SMALL, PUT_BIG, TAKE_BIG])
        self.assertEqual([[item[0] for item in entry[2]] for entry in told], [[0, 1], [0, 1, 2], [1]])
        self.assertEqual([[item[1][0] for item in entry[2]] for entry in told], [["never"] * 2, ["can", "never", "can"], ["never"]])
        queries = [BIG, SMALL, ALL]
        for _, change, papers in told:
            self.assertIs(type(papers), tuple)
            for number, (word, found) in papers:
                check = is_counterexample if word == "can" else is_refutation
                self.assertIs(check(SCHEME, queries[number], change, found), True)

    def test_look_held_watchers_and_log_have_no_entries(self):
        cache = filled()
        before = cache.log()
        cache.look(0), cache.look(2), cache.held(), cache.watchers(0, (1, 1)), cache.log()
        self.assertEqual(cache.log(), before)
        self.assertEqual(len(before), 5)


class TestErrors(Caches):
    def unchanged(self, kind, name, held, call, *arguments):
        cache = call.__self__
        before, kept = self.state(cache, 3), copy.deepcopy(arguments)
        self.raises(kind, name, held, call, *arguments)
        self.assertTrue(same(self.state(cache, 3), before))
        self.assertTrue(same(arguments, kept))

    def test_add(self):
        cache = filled()
        wrong = [*OTHERS, *misshapen(BIG), *[value for value in replaced_by_others(BIG) if not is_query(SCHEME, value)]]
        wrong += [(((2, (0, 1)),), (), ()), (((0, (0, 16)),), (), ()), (((0, (0, 1)),), (), (2,)), BIG[:2], (*BIG, ())]
        for value in wrong:
            self.unchanged(InvalidQuery, "value", value, cache.add, value)
        self.assertEqual(cache.add(SMALL), 3)

    def test_add_with_too_many_cases(self):
        line = ((((0, 3),), (0,), ()),)
        cache = Cache(line)
        query = (tuple((0, (p,)) for p in range(4)), (), ())
        self.raises(TooManyCases, "number", 945, cache.add, query)
        self.assertEqual((cache.log(), cache.held()), ([], []))
        self.assertEqual(cache.add((query[0][:3], (), ())), 0)

    def test_add_with_256_cases(self):
        keys = (((0, 3), (0, 3)), (0, 1), ())
        once = (((0, 3), (0, 3), (0, 3)), (0,), (((0, 1), 0),))
        twice = (((0, 3), (0, 3), (0, 3)), (0,), (((0, 1), 0), ((1, 2), 0)))
        query = (((0, (0, 1)), (1, (2, 3, 4)), (2, (5, 6, 7)), (3, (8, 9, 10))), (), ())
        cache = Cache((keys, once, once, twice))
        self.assertEqual(count_cases((keys, once, once, twice), query, 0), 256)
        self.assertEqual((cache.add(query), cache.watchers(0, (1, 1))), (0, [0]))

    def test_the_number_is_the_greatest_one_of_all_tables(self):
        first = (((0, 3),), (0,), ())
        twice = (((0, 3), (0, 3)), (0, 1), (((0,), 0), ((1,), 0)))
        parts = ((0, (0,)), (1, (1, 2)), (1, (3, 4)), (2, (5, 6)))
        for scheme, query in (((first, twice, twice), (parts, (), ())),
                              ((first, twice, twice, first), (parts[::-1], (), (0,)))):
            self.assertEqual([count_cases(scheme, query, table) for table in (0, 1, 2)], [320, 9, 5])
            self.raises(TooManyCases, "number", 320, Cache(scheme).add, query)
        wide = (((0, 3), (0, 3)), (0, 1), ())
        scheme = (first, wide, (((0, 3), (0, 3)), (0,), (((0, 1), 1),)))
        query = (((1, (0, 1)), (1, (2, 3)), (1, (4, 5)), (2, (0, 1))), (), ())
        numbers = [count_cases(scheme, query, table) for table in range(3)]
        self.assertEqual(numbers, [0, 3 * 5 * 4 * 4 * 4 + 3 * 4 * 4 + 4, 125])
        self.raises(TooManyCases, "number", numbers[1], Cache(scheme).add, query)

    def test_take_in_with_an_unknown_number(self):
        cache = filled()
        wrong = [value for value in OTHERS if not (type(value) is int and 0 <= value < 3)]
        for value in [*wrong, 3, -1, 10 ** 29, True, False, "0", (0,), [0]]:
            self.unchanged(UnknownQuery, "number", value, cache.take_in, value, [])
            self.unchanged(UnknownQuery, "number", value, cache.take_in, value, None)
            self.unchanged(UnknownQuery, "number", value, cache.look, value)

    def test_take_in_with_an_invalid_answer(self):
        cache = filled()
        right = [(3, 4), (3, 5), (7, 0)]
        cache.tell(("insert", 0, (4, 4), ()))
        wrong = [value for value in OTHERS if value != []]
        wrong += [right[::-1], [right[1], right[0]], [*right, (6, 9)], [(3,)], [(3, 4, 5)], [()], [[3, 4]], tuple(right),
                  [(3, None)], [(3, "4")], [(3, (4,))], [3, 4], {(3, 4): 1}, [*right, None], [None, *right]]
        wrong += list(misshapen(right)) + list(misshapen([(0, 1)]))
        for value in wrong:
            self.unchanged(InvalidAnswer, "value", value, cache.take_in, 1, value)
        self.assertIs(cache.take_in(1, right), None)
        for value in replaced_by_others(right):
            fresh = filled()
            fresh.tell(("insert", 0, (4, 4), ()))
            try:
                self.assertIs(fresh.take_in(1, value), None)
                self.assertTrue(same(fresh.look(1), value) and value == sorted(value))
            except InvalidAnswer as error:
                self.assertTrue(same(error.value, value))
                self.assertIs(fresh.look(1), None)

    def test_an_answer_of_1000_outputs_and_of_1001(self):
        cache = filled()
        for many in (1001, 1002, 5000):
            self.unchanged(InvalidAnswer, "value", [()] * many, cache.take_in, 2, [()] * many)
        self.assertIs(cache.take_in(2, [()] * 1000), None)
        self.assertEqual(cache.look(2), [()] * 1000)
        cache.tell(PUT_BIG)
        self.unchanged(InvalidAnswer, "value", [(n,) for n in range(1001)], cache.take_in, 0, [(n,) for n in range(1001)])
        self.assertIs(cache.take_in(0, [(n,) for n in range(1000)]), None)

    def test_an_empty_output_and_truths(self):
        cache = filled()
        for value in ([(0,)], [(), (0,)], [[]], [True], [None], ()):
            self.unchanged(InvalidAnswer, "value", value, cache.take_in, 2, value)
        cache = Cache(SCHEME)
        cache.add(BIG)
        for value in ([(True,)], [(0,), (True,)], [(False,), (1,)]):
            with self.assertRaises(InvalidAnswer):
                cache.take_in(0, value)
        cache.take_in(0, [(0,), (1,)])
        with self.assertRaises(InvalidAnswer):
            cache.take_in(0, [(0,), (True,)])

    def test_take_in_that_disagrees(self):
        cache = filled()
        for value in ([], [(5,), (5,)], [(5,), (7,), (7,)], [(5,), (5,), (7,), (7,)], [(6,)]):
            self.unchanged(Disagrees, "number", 0, cache.take_in, 0, value)
        self.unchanged(Disagrees, "number", 1, cache.take_in, 1, [(1, 1)])
        cache.mark()
        cache.tell(PUT_BIG)
        cache.take_in(0, [])
        cache.back(0)
        self.unchanged(Disagrees, "number", 0, cache.take_in, 0, [])

    def test_the_error_that_is_listed_first(self):
        cache = filled()
        self.unchanged(UnknownQuery, "number", 3, cache.take_in, 3, [(6,), (5,)])
        self.unchanged(InvalidAnswer, "value", [(6,), (5,)], cache.take_in, 0, [(6,), (5,)])
        self.unchanged(InvalidAnswer, "value", [(6,)] * 1001, cache.take_in, 0, [(6,)] * 1001)
        self.unchanged(Disagrees, "number", 0, cache.take_in, 0, [(5,), (6,)])
        line = ((((0, 3),), (0,), ()),)
        query = (tuple((0, (p,)) for p in range(4)), (), (4,))
        self.raises(InvalidQuery, "value", query, Cache(line).add, query)

    def test_tell(self):
        cache = filled()
        wrong = [*OTHERS, *misshapen(PUT_BIG), *misshapen(TAKE_BIG)]
        wrong += [value for value in replaced_by_others(PUT_BIG) if not is_change(SCHEME, value)]
        wrong += [("insert", 1, (6, "a", 500), ()), ("delete", 1, ("d",), ()), ("insert", 0, ("a", "a"), (("a", None, 3),)),
                  ("delete", 0, (3,), (("a", None, 3),)), ("delete", 0, (3,), ((None, None, 3),)), ("insert", 0, (3,), ()),
                  ("insert", 0, (100, 3), ()), ("delete", 2, (3,), ()), ("insert", 0, (3, 4))]
        for value in wrong:
            self.unchanged(InvalidChange, "value", value, cache.tell, value)

    def test_back(self):
        cache = filled()
        self.unchanged(UnknownMark, "number", 0, cache.back, 0)
        cache.mark(), cache.mark()
        wrong = [value for value in OTHERS if not (type(value) is int and 0 <= value < 2)]
        for value in [*wrong, 2, -1, True, False, "0", None]:
            self.unchanged(UnknownMark, "number", value, cache.back, value)
        self.assertIs(cache.back(1), None)

    def test_errors_hold_copies(self):
        value = [[1, [2]]]
        for call in (Cache(SCHEME).add, Cache(SCHEME).tell, lambda value: filled().take_in(0, value)):
            with self.assertRaises(WatchzonesError) as caught:
                call(value)
            value[0][1].append(3)
            self.assertEqual(caught.exception.value, [[1, [2]]])
            value[0][1].pop()


class TestCopies(Caches):
    def test_what_was_handed_in_may_be_changed_afterwards(self):
        cache = filled()
        rows = [(), ()]
        cache.take_in(2, rows)
        before = self.state(cache, 3)
        rows.append(())
        self.assertEqual(self.state(cache, 3), before)
        rows.clear()
        self.assertEqual(cache.look(2), [(), ()])

    def test_what_was_told_may_be_changed_afterwards(self):
        cache = filled()
        cache.mark()
        cache.tell(PUT_SMALL)
        cache.tell(PUT_BIG)
        before = copy.deepcopy(self.state(cache, 3))
        cache.look(1).append((0, 0))
        cache.held().clear()
        self.assertEqual(self.state(cache, 3), before)
        log = cache.log()
        log[3][2].append((9,))
        log[6][2][0][1][1][0].clear()
        log[6][2][0][1][1].append([])
        log[7][2][0][1][1][3].append((9,))
        log.append(("mark",))
        log[0] = None
        self.assertEqual(self.state(cache, 3), before)
        cache.back(0)
        self.assertEqual(cache.look(0), [(5,), (5,), (7,)])

    def test_ended_numbers_may_be_changed_afterwards(self):
        cache = filled()
        cache.tell(PUT_BIG).append(1)
        self.assertEqual((cache.held(), cache.look(1)), ([1], []))

    def test_no_two_lists_are_one(self):
        cache = filled()
        cache.take_in(1, [])
        cache.tell(PUT_SMALL)
        cache.tell(PUT_BIG)

        def lists(value):
            inner = [some for item in value for some in lists(item)] if isinstance(value, (list, tuple)) else []
            return inner + ([value] if isinstance(value, list) else [])

        told = [cache.log(), cache.log(), cache.look(1), cache.look(1), cache.held(), cache.held()]
        found = lists(told)
        self.assertEqual(len({id(some) for some in found}), len(found))
        self.assertGreater(len(found), 20)


class TestEquality(Caches):
    def differ(self, one, other):
        self.assertIs(one == other, False)
        self.assertIs(other == one, False)
        self.assertIs(one != other, True)

    def equal(self, one, other):
        self.assertIs(one == other, True)
        self.assertIs(other == one, True)
        self.assertIs(one != other, False)

    def test_equal_calls(self):
        self.equal(Cache(SCHEME), Cache(copy.deepcopy(SCHEME)))
        one, other = filled(), filled()
        self.equal(one, other)
        self.equal(one, one)
        for change in (PUT_SMALL, PUT_BIG, TAKE_BIG):
            one.tell(change)
            self.differ(one, other)
            other.tell(change)
            self.equal(one, other)

    def test_calls_without_entries_and_refused_calls(self):
        one, other = filled(), filled()
        one.look(0), one.held(), one.watchers(1, (5, 3, 600)), one.log()
        for call, value in ((one.add, None), (one.look, 9), (one.tell, ()), (one.back, 0)):
            with self.assertRaises(WatchzonesError):
                call(value)
        with self.assertRaises(Disagrees):
            one.take_in(0, [])
        self.equal(one, other)

    def test_other_schemes(self):
        self.differ(Cache(SCHEME), Cache(WIDE))
        self.differ(Cache(SCHEME), Cache(SCHEME[:1]))
        self.differ(Cache(SCHEME[:1]), Cache(((((0, 99), (0, 8)), (0,), ()),)))

    def test_other_calls(self):
        one = filled()
        for call, arguments in (("add", (BIG,)), ("take_in", (1, [])), ("take_in", (2, [])), ("tell", (PUT_BIG,)), ("mark", ())):
            other = filled()
            getattr(other, call)(*arguments)
            self.differ(one, other)
        one, other = filled(), filled()
        one.tell(PUT_SMALL), other.tell(("insert", 0, (4, 8), ()))
        self.differ(one, other)
        one, other = Cache(SCHEME), Cache(SCHEME)
        one.add(BIG), one.add(SMALL), other.add(SMALL), other.add(BIG)
        self.differ(one, other)

    def test_logs_count_and_not_what_is_there_now(self):
        one, other = filled(), filled()
        one.mark(), one.add(BIG), one.back(0)
        other.mark()
        self.assertEqual([one.look(n) for n in range(3)], [other.look(n) for n in range(3)])
        self.differ(one, other)

    def test_other_values(self):
        cache = Cache(SCHEME)
        for value in [*OTHERS, SCHEME, cache.log(), object(), Cache, Record(SCHEME)]:
            self.assertIs(cache == value, False)
            self.assertIs(value == cache, False)
            self.assertIs(cache != value, True)


class TestHistories(Caches):
    """Calls one after the other, right and wrong ones, against a record by hand and beside a database."""

    def step(self, chosen, scheme, cache, record, database, marked):
        """Make one call, or a few wrong ones; return the database behind it."""
        word = chosen.choice(("add", "take in", "take in", "tell", "tell", "tell", "mark", "back", "wrong"))
        if word == "wrong" or (word == "take in" and not record.queries) or (word == "back" and not record.marks):
            self.wrong_step(cache, record)
            return database
        record.words.append(word)
        if word == "add":
            query = random_query(chosen, scheme, 2)
            self.assertEqual(cache.add(query), len(record.queries))
            record.queries.append(query)
            record.answers.append(None)
        elif word == "take in":
            number = chosen.randrange(len(record.queries))
            rows = answer(scheme, record.queries[number], database)
            self.assertIs(cache.take_in(number, rows), None)
            record.answers[number] = rows
        elif word == "tell":
            change = random_change(chosen, scheme, plain=True)
            self.assertEqual(cache.tell(change), record.tell(change))
            database = carried_out(scheme, database, change)[0]
        elif word == "mark":
            self.assertEqual(cache.mark(), record.mark())
            marked.append(database)
        else:
            number = chosen.randrange(len(record.marks))
            self.assertIs(cache.back(number), None)
            record.back(number)
            del marked[number + 1:]
            database = marked[number]
        return database

    def wrong_step(self, cache, record):
        before = cache.log()
        self.raises(UnknownQuery, "number", len(record.queries), cache.look, len(record.queries))
        self.raises(UnknownQuery, "number", len(record.queries), cache.take_in, len(record.queries), [])
        self.raises(UnknownMark, "number", len(record.marks), cache.back, len(record.marks))
        self.raises(InvalidQuery, "value", 0, cache.add, 0)
        self.raises(InvalidChange, "value", (), cache.tell, ())
        for number, rows in enumerate(record.answers):
            if rows is not None:
                longer = [*rows, rows[-1] if rows else tuple(0 for _ in record.queries[number][2])]
                self.raises(Disagrees, "number", number, cache.take_in, number, longer)
        self.assertEqual(cache.log(), before)

    def test_random_histories(self):
        kept = 0
        for seed in range(80):
            chosen = dice(seed)
            scheme = random_scheme(chosen, 2)
            cache, record, marked = Cache(scheme), Record(scheme), []
            database = random_database(chosen, scheme)
            for _ in range(25):
                database = self.step(chosen, scheme, cache, record, database, marked)
                self.assertEqual([cache.look(number) for number in range(len(record.queries))], record.answers)
                self.assertEqual(cache.held(), [n for n, rows in enumerate(record.answers) if rows is not None])
                self.assertEqual([entry[0] for entry in cache.log()], record.words)
                # Each answer that the cache still has is the database's answer now.
                for number in cache.held():
                    self.assertEqual(cache.look(number), answer(scheme, record.queries[number], database))
                    kept += 1
        self.assertGreater(kept, 500)

    def test_equal_histories_give_equal_caches(self):
        for seed in range(20):
            caches = []
            for _ in range(2):
                chosen = dice(seed)
                scheme = random_scheme(chosen, 2)
                cache, record, marked = Cache(scheme), Record(scheme), []
                database = random_database(chosen, scheme)
                for _ in range(15):
                    database = self.step(chosen, scheme, cache, record, database, marked)
                caches.append((cache, cache.log()))
            self.assertTrue(caches[0][0] == caches[1][0])
            self.assertTrue(same(caches[0][1], caches[1][1]))

    def test_arguments_of_a_cache_are_as_before(self):
        arguments = (SCHEME, BIG, PUT_BIG, DATA)
        before = copy.deepcopy(arguments)
        filled().tell(PUT_BIG)
        self.assertEqual(arguments, before)
