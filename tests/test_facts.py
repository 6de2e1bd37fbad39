import copy
import unittest

import oracle
from samples import (
    BIG, OTHERS, SCHEME, dice, misshapen, random_query, random_scheme, replaced_by_others, same)
from watchzones.cases import bare_cases, constraint_of, count_bare
from watchzones.databases import is_database
from watchzones.facts import find_answer, is_empty, is_spare, needed
from watchzones.queries import answer

TINY = ((((0, 1), (0, 1)), (0, 1), ()), (((0, 2), (0, 1)), (0,), (((1, 1), 0),)))
SINGLE = ((((0, 1), (0, 1)), (0,), ()), (((0, 1), (0, 1), (0, 1)), (0,), (((1,), 0), ((2,), 0))))
LONELY = ((((0, 3),), (0,), ()),)

ONE = (((0, (0, 1)),), ((0, None, 4), (None, 0, -5)), (0,))
ONE_SHOWN = [[("constraint", 0), ("constraint", 1)]]
# The parts have one row or two rows with different keys, but one key is asked for, and different other numbers.
PAIR = (((0, (0, 1)), (0, (0, 2))), ((1, 2, -1),), ())
PAIR_SHOWN = [[("same", 0, 1, 1, 1), ("constraint", 0)], [("apart", 0, 1)], [("apart", 0, 1)]]
SPARE = (((0, (0, 1)),), ((0, 1, 2), (1, None, 3), (0, None, 5)), (0,))
SPARE_SHOWN = [[("constraint", 0), ("constraint", 1), ("not", 2)]]


def without(query, i):
    parts, constraints, output = query
    return (parts, constraints[:i] + constraints[i + 1:], output)


def with_constraint(query, i, constraint):
    parts, constraints, output = query
    return (parts, constraints[:i] + (constraint,) + constraints[i + 1:], output)


class Facts(unittest.TestCase):
    """What is found is shown by the answers in the database, or by adding the constraints of each bar."""

    def showing(self, scheme, query, i, found):
        all_cases = bare_cases(scheme, query)
        self.assertIs(type(found), list)
        self.assertEqual(len(found), len(all_cases))
        for case, bar in zip(all_cases, found):
            constraints = []
            for reason in bar:
                self.assertNotEqual(reason, ("constraint", i))
                if reason == ("not", i):
                    x, y, c = query[1][i]
                    constraints.append((y, x, -c - 1))
                else:
                    constraints.append(constraint_of(scheme, query, None, case, reason))
            fronts = [x for x, _, _ in constraints]
            self.assertEqual(fronts[1:] + fronts[:1], [y for _, y, _ in constraints])
            self.assertLess(sum(c for _, _, c in constraints), 0)

    def found(self, scheme, query):
        before = copy.deepcopy((scheme, query))
        word, found = find_answer(scheme, query)
        if word == "answers":
            self.assertIs(is_database(scheme, found), True)
            self.assertNotEqual(answer(scheme, query, found), [])
        else:
            self.assertEqual(word, "empty")
            self.showing(scheme, query, None, found)
            self.assertIs(is_empty(scheme, query, found), True)
        self.assertEqual((scheme, query), before)
        self.assertTrue(same(find_answer(scheme, query), (word, found)))
        return word

    def need(self, scheme, query, i):
        before = copy.deepcopy((scheme, query))
        word, found = needed(scheme, query, i)
        if word == "needed":
            self.assertIs(is_database(scheme, found), True)
            self.assertNotEqual(len(answer(scheme, query, found)), len(answer(scheme, without(query, i), found)))
        else:
            self.assertEqual(word, "spare")
            self.showing(scheme, query, i, found)
            self.assertIs(is_spare(scheme, query, i, found), True)
        self.assertEqual((scheme, query), before)
        self.assertTrue(same(needed(scheme, query, i), (word, found)))
        return word


class TestFindAnswer(Facts):
    def finds(self, scheme, *told):
        for query, word in told:
            self.assertEqual(self.found(scheme, query), word, query)

    def test_example(self):
        self.assertEqual(find_answer(SCHEME, BIG)[0], "answers")
        self.finds(SCHEME, (BIG, "answers"))

    def test_constraints_that_contradict_each_other(self):
        self.finds(SCHEME, (ONE, "empty"), (with_constraint(ONE, 1, (None, 0, -4)), "answers"), (without(ONE, 0), "answers"),
                   ((((0, (0, 1)),), ((0, 1, -1), (1, 0, 0)), ()), "empty"),
                   ((((0, (0, 1)),), ((0, 1, 0), (1, 0, 0)), ()), "answers"))

    def test_constraints_that_contradict_the_bounds(self):
        query = (((0, (0, 1)),), ((None, 1, -9),), ())
        self.finds(SCHEME, (query, "answers"), (with_constraint(query, 0, (None, 1, -10)), "empty"),
                   (with_constraint(query, 0, (1, None, 0)), "answers"),
                   (with_constraint(query, 0, (1, None, -1)), "empty"),
                   (with_constraint(query, 0, (1, 0, -99)), "answers"),
                   (with_constraint(query, 0, (1, 0, -100)), "empty"))

    def test_parts_of_one_row(self):
        self.finds(SCHEME, (PAIR, "empty"), (with_constraint(PAIR, 0, (1, 2, 0)), "answers"),
                   ((((0, (0, 1)), (0, (3, 2))), ((1, 2, -1),), ()), "answers"),
                   ((((0, (0, 1)), (0, (3, 2))), ((1, 2, -1), (0, 3, 0), (3, 0, 0)), ()), "empty"),
                   ((((0, (0, 1)), (0, (3, 2))), ((1, 2, -1), (0, 3, 0), (3, 0, 1)), ()), "answers"))

    def test_a_row_to_which_a_part_refers_is_put_in(self):
        query = (((1, (0, 1, 2)),), ((None, 1, -7), (1, None, 7)), ())
        word, found = find_answer(SCHEME, query)
        self.assertEqual((word, [row[0] for row in found[0]]), ("answers", [7]))
        query = (((1, (0, 1, 2)), (0, (1, 3))), ((None, 3, -4),), ())
        self.assertEqual([row[1] >= 4 for row in find_answer(SCHEME, query)[1][0]], [True])
        self.finds(SCHEME, (query, "answers"))

    def test_references_to_rows_of_other_parts(self):
        # The row of part 1 has the key to which part 0 refers: they cannot have different other columns.
        query = (((1, (0, 1, 2)), (0, (1, 3)), (0, (1, 4))), ((3, 4, -1),), ())
        self.finds(SCHEME, (query, "empty"), (with_constraint(query, 0, (3, 4, 0)), "answers"))

    def test_no_constraint_and_no_output(self):
        self.finds(SCHEME, ((((0, (0, 0)),), (), ()), "answers"), ((((1, (0, 0, 0)),), ((None, 0, -99),), ()), "answers"),
                   ((((1, (0, 0, 0)),), ((None, 0, -100),), ()), "empty"))

    def test_against_all_databases(self):
        words = []
        for scheme, seeds in ((TINY, range(120)), (SINGLE, range(80)), (LONELY, range(120))):
            databases = list(oracle.all_databases(scheme))
            for seed in seeds:
                query = random_query(dice(seed), scheme)
                if count_bare(scheme, query) <= 300:
                    word = self.found(scheme, query)
                    self.assertEqual(word == "answers", any(answer(scheme, query, some) != [] for some in databases), query)
                    words.append(word)
        self.assertGreater(min(words.count("answers"), words.count("empty")), 30)

    def test_random_schemes(self):
        words = []
        for seed in range(500):
            scheme = random_scheme(dice(seed), 4, 4)
            query = random_query(dice(seed), scheme, 4)
            if count_bare(scheme, query) <= 300:
                words.append(self.found(scheme, query))
        self.assertGreater(min(words.count("answers"), words.count("empty")), 30)

    def test_new_lists(self):
        first = find_answer(SCHEME, PAIR)[1]
        kept = copy.deepcopy(first)
        self.assertEqual(len({id(bar) for bar in first}), 3)
        for bar in first:
            bar.append(None)
        first.clear()
        self.assertEqual(find_answer(SCHEME, PAIR)[1], kept)


class TestNeeded(Facts):
    def needs(self, scheme, query, *words):
        self.assertEqual([self.need(scheme, query, i) for i in range(len(query[1]))], list(words))

    def test_example(self):
        self.assertEqual(needed(SCHEME, BIG, 0)[0], "needed")
        self.needs(SCHEME, BIG, "needed", "needed")

    def test_constraints_that_follow_from_others(self):
        self.needs(SCHEME, SPARE, "needed", "needed", "spare")
        self.needs(SCHEME, with_constraint(SPARE, 2, (0, None, 4)), "needed", "needed", "needed")
        self.needs(SCHEME, with_constraint(SPARE, 2, (0, None, 6)), "needed", "needed", "spare")
        self.needs(SCHEME, with_constraint(SPARE, 2, (0, None, 3)), "needed", "needed", "needed")
        self.needs(SCHEME, with_constraint(SPARE, 2, (0, None, 2)), "spare", "needed", "needed")
        self.needs(SCHEME, with_constraint(SPARE, 2, (0, None, -1)), "spare", "spare", "needed")

    def test_constraints_that_follow_from_the_bounds(self):
        query = (((0, (0, 1)),), ((1, None, 9), (1, None, 8), (None, 0, 0), (0, 1, 99), (1, 0, 9)), ())
        self.needs(SCHEME, query, "spare", "needed", "spare", "spare", "spare")
        self.assertEqual(needed(SCHEME, (((0, (0, 1)),), ((1, 0, 8),), ()), 0)[0], "needed")

    def test_constraints_that_are_said_twice(self):
        query = (((0, (0, 1)),), ((0, 1, 2), (0, 1, 2)), ())
        self.needs(SCHEME, query, "spare", "spare")
        self.needs(SCHEME, with_constraint(query, 1, (0, 1, 3)), "needed", "spare")

    def test_constraints_that_follow_from_keys(self):
        query = (((0, (0, 1)), (0, (0, 2))), ((1, 2, 0), (2, 1, 3), (1, 2, -1)), ())
        self.needs(SCHEME, query, "spare", "spare", "needed")
        self.needs(SCHEME, without(query, 2), "spare", "spare")

    def test_constraints_of_empty_queries(self):
        self.needs(SCHEME, ONE, "needed", "needed")
        self.needs(SCHEME, (ONE[0], (*ONE[1], (0, None, 40)), ()), "needed", "needed", "spare")
        self.needs(SCHEME, (ONE[0], (*ONE[1], (1, 0, -50)), ()), "needed", "spare", "spare")
        self.needs(SCHEME, (ONE[0], ONE[1] * 2, ()), "spare", "spare", "spare", "spare")

    def test_against_all_databases(self):
        words = []
        for scheme, seeds in ((TINY, range(120)), (SINGLE, range(80)), (LONELY, range(120))):
            databases = list(oracle.all_databases(scheme))
            for seed in seeds:
                query = random_query(dice(seed), scheme)
                if count_bare(scheme, query) > 300:
                    continue
                for i in range(len(query[1])):
                    word = self.need(scheme, query, i)
                    other = without(query, i)
                    self.assertEqual(word == "needed", any(
                        answer(scheme, query, some) != answer(scheme, other, some) for some in databases), (query, i))
                    words.append(word)
        self.assertGreater(min(words.count("needed"), words.count("spare")), 60)

    def test_random_schemes(self):
        words = []
        for seed in range(300):
            scheme = random_scheme(dice(seed), 4, 4)
            query = random_query(dice(seed), scheme, 4)
            if count_bare(scheme, query) <= 300:
                words += [self.need(scheme, query, i) for i in range(len(query[1]))]
        self.assertGreater(min(words.count("needed"), words.count("spare")), 60)

    def test_new_lists(self):
        first = needed(SCHEME, SPARE, 2)[1]
        kept = copy.deepcopy(first)
        first[0].append(None)
        first.append([])
        self.assertEqual(needed(SCHEME, SPARE, 2)[1], kept)


class TestIsEmpty(unittest.TestCase):
    def wrong(self, query, *values):
        for value in values:
            self.assertIs(is_empty(SCHEME, query, value), False, value)

    def right(self, query, *values):
        for value in values:
            self.assertIs(is_empty(SCHEME, query, value), True, value)

    def test_right_ones(self):
        self.right(ONE, ONE_SHOWN, [ONE_SHOWN[0][::-1]], [ONE_SHOWN[0] * 3])
        self.right(PAIR, PAIR_SHOWN, find_answer(SCHEME, PAIR)[1])

    def test_one_thing_changed(self):
        self.wrong(ONE, [], [[]], [[("constraint", 0)]], [[("constraint", 1)]], [[("constraint", 0)] * 2],
                   [[("constraint", 0), ("constraint", 2)]], [[("constraint", 0), ("constraint", -1)]],
                   [[*ONE_SHOWN[0], ("constraint", 0)]], ONE_SHOWN * 2, [[("constraint", 0), ("low", 0, 0)]])
        same_row, below, above = PAIR_SHOWN
        self.wrong(PAIR, [below, same_row, above], [same_row, below], [same_row, below, above, above], [below] * 3,
                   [same_row] * 3, [same_row, below, []], [same_row, below, [("not", 0)]], [same_row[:1], below, above],
                   [[("same", 0, 1, 1, 0), ("constraint", 0)], below, above], [same_row, [("row apart", 0)], above])

    def test_no_reason_of_rows_changes_and_broken_constraints(self):
        for reason in (("not", 0), ("not", 1), ("row low", 0), ("row high", 0), ("value", 0, 0), ("takes", 0, 0, 0)):
            self.wrong(ONE, [[reason]], [[("constraint", 0), reason]], [[reason, ("constraint", 1)]])

    def test_other_queries(self):
        self.wrong(with_constraint(ONE, 0, (0, None, 5)), ONE_SHOWN)
        self.right(with_constraint(ONE, 0, (0, None, 3)), ONE_SHOWN)
        self.wrong(with_constraint(ONE, 0, (1, None, 4)), ONE_SHOWN)
        self.wrong(without(ONE, 0), ONE_SHOWN)
        self.wrong((((0, (1, 0)), (0, (2, 0))), ONE[1], ()), ONE_SHOWN)
        self.right((((0, (1, 0)), (0, (2, 0))), ONE[1], ()), ONE_SHOWN * 3)
        self.wrong(with_constraint(PAIR, 0, (2, 1, -1)), PAIR_SHOWN)
        self.wrong(BIG, ONE_SHOWN, PAIR_SHOWN, [[]])

    def test_kinds_lengths_and_truths(self):
        self.wrong(ONE, *misshapen(ONE_SHOWN), tuple(ONE_SHOWN), [tuple(ONE_SHOWN[0])])
        self.wrong(PAIR, *misshapen(PAIR_SHOWN))

    def test_any_value(self):
        self.wrong(ONE, *OTHERS, *replaced_by_others(ONE_SHOWN))
        self.wrong(PAIR, *OTHERS, *replaced_by_others(PAIR_SHOWN))

    def test_arguments_are_as_before(self):
        value = copy.deepcopy(PAIR_SHOWN)
        is_empty(SCHEME, PAIR, value)
        self.assertEqual(value, PAIR_SHOWN)


class TestIsSpare(unittest.TestCase):
    def wrong(self, query, i, *values):
        for value in values:
            self.assertIs(is_spare(SCHEME, query, i, value), False, value)

    def right(self, query, i, *values):
        for value in values:
            self.assertIs(is_spare(SCHEME, query, i, value), True, value)

    def test_example(self):
        self.right((((0, (0, 1)),), ((1, None, 9),), (0,)), 0, [[("high", 0, 1), ("not", 0)]])

    def test_right_ones(self):
        bar = SPARE_SHOWN[0]
        self.right(SPARE, 2, SPARE_SHOWN, [bar[1:] + bar[:1]], [bar * 2], needed(SCHEME, SPARE, 2)[1])

    def test_one_thing_changed(self):
        bar = SPARE_SHOWN[0]
        self.wrong(SPARE, 2, [], [[]], [bar, bar], [bar[:2]], [bar[1:]], [bar[::-1]], [[*bar, bar[0]]],
                   [[bar[0], ("high", 0, 1), bar[2]]])
        self.wrong(SPARE, 2, [[bar[0], bar[1], ("not", 1)]], [[bar[0], bar[1], ("not", 3)]], [[bar[0], bar[1], ("not", -1)]],
                   [[bar[0], bar[1], ("not", 2, 0)]], [[bar[0], bar[1], ("not",)]], [[bar[0], bar[1], ("constraint", 2)]])

    def test_the_constraint_itself_is_no_reason(self):
        query = (((0, (0, 1)),), ((0, 1, 2), (0, 1, 2), (0, 1, 3)), ())
        for i, reason, expected in ((0, 0, False), (0, 1, True), (0, 2, False), (0, 3, False), (0, -1, False),
                                    (1, 0, True), (1, 1, False), (1, 2, False), (2, 0, True), (2, 1, True), (2, 2, False)):
            self.assertIs(is_spare(SCHEME, query, i, [[("constraint", reason), ("not", i)]]), expected, (i, reason))
            for other in range(-1, 4):
                if other != i:
                    self.wrong(query, i, [[("constraint", reason), ("not", other)]])

    def test_what_makes_the_query_without_it_empty_shows_it_too(self):
        query = (((0, (0, 1)),), (*ONE[1], (1, 0, -50)), ())
        self.right(query, 2, ONE_SHOWN)
        self.wrong(query, 0, ONE_SHOWN)
        self.wrong(query, 1, ONE_SHOWN)

    def test_several_cases(self):
        query = (((0, (0, 1)), (0, (0, 2))), ((1, 2, 0), (2, 1, 3), (1, 2, -1)), ())
        found = [[("same", 0, 1, 1, 0), ("not", 0)], [("apart", 0, 1)], [("apart", 0, 1)]]
        self.right(query, 0, found)
        self.wrong(query, 1, found)
        self.wrong(query, 2, found)
        self.wrong(query, 0, found[:2], found[::-1], [found[0], found[0], found[2]], [found[0], found[1], [("not", 0)]])

    def test_other_queries_and_constraints(self):
        self.wrong(SPARE, 0, SPARE_SHOWN)
        self.wrong(SPARE, 1, SPARE_SHOWN)
        self.right(with_constraint(SPARE, 2, (0, None, 9)), 2, SPARE_SHOWN)
        self.wrong(with_constraint(SPARE, 2, (0, None, 4)), 2, SPARE_SHOWN)
        self.wrong(with_constraint(SPARE, 0, (0, 1, 3)), 2, SPARE_SHOWN)
        self.wrong(with_constraint(SPARE, 1, (1, None, 4)), 2, SPARE_SHOWN)
        self.wrong(with_constraint(SPARE, 2, (1, None, 5)), 2, SPARE_SHOWN)

    def test_kinds_lengths_and_truths(self):
        self.wrong(SPARE, 2, *misshapen(SPARE_SHOWN))
        query = (((0, (0, 1)),), ((0, 1, 2), (0, 1, 2)), ())
        found = [[("constraint", 0), ("not", 1)]]
        self.right(query, 1, found)
        self.wrong(query, 1, *misshapen(found), [[("constraint", 0), ("not", True)]], [[("constraint", False), ("not", 1)]])

    def test_any_value(self):
        self.wrong(SPARE, 2, *OTHERS, *replaced_by_others(SPARE_SHOWN))

    def test_arguments_are_as_before(self):
        value = copy.deepcopy(SPARE_SHOWN)
        is_spare(SCHEME, SPARE, 2, value)
        self.assertEqual(value, SPARE_SHOWN)
