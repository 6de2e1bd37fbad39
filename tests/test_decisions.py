import copy
import unittest

import oracle
from samples import (
    BIG, DATA, OTHERS, SCHEME, dice, misshapen, random_change, random_query, random_scheme, replaced_by_others, same)
from watchzones.cases import cases, constraint_of, count_cases
from watchzones.databases import carried_out, is_database, made_plain
from watchzones.decisions import decide, is_counterexample, is_refutation
from watchzones.queries import answer

PUT_BIG = ("insert", 1, (5, "a", 600), ())
SHOWN = ((((3, 5),), ()), (3,), [], [(5,)])
PUT_SMALL = ("insert", 0, ("a", 7), ())
BARS = [[("takes", 1, 0, 1), ("reference apart", 0, 0)], [("takes", 1, 0, 0), ("reference apart", 0, 0)]]

# Small enough for all databases to be tried: a key of two columns with a reference to it, a key of one column.
TINY = ((((0, 1), (0, 1)), (0, 1), ()), (((0, 2), (0, 1)), (0,), (((1, 1), 0),)))
SINGLE = ((((0, 1), (0, 1)), (0,), ()), (((0, 1), (0, 1), (0, 1)), (0,), (((1,), 0), ((2,), 0))))
LONELY = ((((0, 3),), (0,), ()),)


class Decisions(unittest.TestCase):
    """What decide returns is right by carrying the change out, or by adding the constraints of each bar."""

    def counterexample(self, scheme, query, change, found):
        self.assertIs(is_counterexample(scheme, query, change, found), True)
        database, values, before, after = found
        self.assertIs(is_database(scheme, database), True)
        self.assertLessEqual(len(database[change[1]]), 29)
        plain = made_plain(scheme, change, values)
        behind, hindrance = carried_out(scheme, database, plain)
        self.assertIs(hindrance, None)
        self.assertTrue(same(before, answer(scheme, query, database)))
        self.assertTrue(same(after, answer(scheme, query, behind)))
        self.assertNotEqual(len(before), len(after))
        self.assertEqual(len(before) < len(after), change[0] == "insert")

    def refutation(self, scheme, query, change, found):
        self.assertIs(is_refutation(scheme, query, change, found), True)
        all_cases = cases(scheme, query, change[1])
        self.assertEqual(len(found), len(all_cases))
        for case, bar in zip(all_cases, found):
            constraints = [constraint_of(scheme, query, change, case, reason) for reason in bar]
            fronts = [x for x, _, _ in constraints]
            self.assertEqual(fronts[1:] + fronts[:1], [y for _, y, _ in constraints])
            self.assertEqual(len(set(fronts)), len(fronts))
            self.assertLess(sum(c for _, _, c in constraints), 0)

    def decision(self, scheme, query, change):
        before = copy.deepcopy((scheme, query, change))
        word, found = decide(scheme, query, change)
        self.assertIn(word, ("can", "never"))
        check = self.counterexample if word == "can" else self.refutation
        check(scheme, query, change, found)
        self.assertEqual((scheme, query, change), before)
        self.assertEqual(decide(scheme, query, change), (word, found))
        return word


class TestDecide(Decisions):
    def decides(self, scheme, query, *told):
        for change, word in told:
            self.assertEqual(self.decision(scheme, query, change), word, change)

    def test_example(self):
        self.decides(SCHEME, BIG, (PUT_SMALL, "never"), (PUT_BIG, "can"))

    def test_plain_changes(self):
        self.decides(SCHEME, BIG, (("insert", 1, (5, 3, 600), ()), "can"), (("insert", 1, (5, 3, 500), ()), "can"),
                     (("insert", 1, (5, 3, 499), ()), "never"), (("delete", 1, (5,), ()), "can"),
                     (("delete", 0, (3,), ()), "never"), (("insert", 0, (3, 9), ()), "never"))

    def test_parameters_and_conditions(self):
        self.decides(
            SCHEME, BIG,
            (("insert", 1, (5, 3, "a"), (("a", None, 500),)), "can"),
            (("insert", 1, (5, 3, "a"), (("a", None, 499),)), "never"),
            (("insert", 1, ("a", "a", "b"), (("b", "a", 401),)), "can"),
            (("insert", 1, ("a", "a", "b"), (("b", "a", 400),)), "never"),
            (("insert", 1, (5, "c", "c"), ()), "never"),
            (("delete", 1, ("d",), (("d", None, 0),)), "can"),
            (("delete", 1, ("d",), (("d", None, -1),)), "never"))

    def test_keys_of_two_columns(self):
        query = (((0, (0, 1)), (0, (1, 0))), ((0, 1, -1),), (0, 1))
        self.decides(TINY, query, (("insert", 0, (0, 1), ()), "can"), (("insert", 0, (1, 0), ()), "can"),
                     (("insert", 0, (0, 0), ()), "never"), (("delete", 0, (1, 1), ()), "never"),
                     (("delete", 0, ("a", "b"), (("a", "b", 0),)), "can"),
                     (("delete", 0, ("a", "a"), ()), "never"))

    def test_references(self):
        # A row to which a part of the way refers can be neither put in nor taken out while the way is there.
        query = (((1, (0, 1)), (0, (1, 1))), (), (0,))
        self.decides(TINY, query, (("insert", 0, (0, 0), ()), "never"), (("delete", 0, ("a", "b"), ()), "never"),
                     (("insert", 1, ("a", "b"), ()), "can"), (("delete", 1, (2,), ()), "can"))
        query = (((1, (0, 1)), (0, (2, 3))), (), (0,))
        self.decides(TINY, query, (("insert", 0, (0, 0), ()), "can"), (("delete", 0, ("a", "b"), ()), "can"))
        query = (((1, (0, 1, 2)), (0, (1, 3)), (0, (2, 4))), (), ())
        self.decides(SINGLE, query, (("delete", 0, (0,), ()), "never"), (("insert", 0, (1, 1), ()), "never"),
                     (("delete", 1, (0,), ()), "can"))

    def test_a_row_of_a_referred_table_that_is_no_part_is_put_in(self):
        query = (((1, (0, 1)),), ((None, 1, -1),), (0,))
        word, (database, values, before, after) = decide(TINY, query, ("insert", 1, (2, 1), ()))
        self.assertEqual((word, values, before, after), ("can", (), [], [(2,)]))
        self.assertIn((1, 1), database[0])

    def test_a_table_that_no_part_is_of(self):
        query = (((0, (0, 1)),), (), (0,))
        self.assertEqual(decide(TINY, query, ("insert", 1, ("a", "b"), ())), ("never", []))
        self.assertEqual(decide(TINY, query, ("delete", 1, (0,), ())), ("never", []))

    def test_a_query_that_has_no_way(self):
        query = (((0, (0, 1)),), ((0, 1, -1), (1, 0, 0)), (0,))
        self.decides(TINY, query, (("insert", 0, ("a", "b"), ()), "never"), (("delete", 0, (0, 0), ()), "never"))

    def test_values_are_in_the_order_of_the_parameters(self):
        query = (((1, (0, 1, 2)),), ((None, 2, -700), (2, None, 700), (0, None, 8), (None, 0, -8)), (0,))
        word, found = decide(SCHEME, query, ("insert", 1, ("d", 3, "b"), ()))
        self.assertEqual((word, found[1]), ("can", (700, 8)))

    def against_all_databases(self, scheme, seeds, parts=3):
        databases = list(oracle.all_databases(scheme))
        words = []
        for seed in seeds:
            chosen = dice(seed)
            query = random_query(chosen, scheme, parts)
            change = random_change(chosen, scheme)
            if count_cases(scheme, query, change[1]) <= 300:
                word = self.decision(scheme, query, change)
                self.assertEqual(word == "can", oracle.altering(scheme, query, databases, change) != set(), seed)
                words.append(word)
        self.assertGreater(min(words.count("can"), words.count("never")), len(words) // 12)

    def test_against_all_databases_with_keys_of_two_columns(self):
        self.against_all_databases(TINY, range(150))

    def test_against_all_databases_with_two_references(self):
        self.against_all_databases(SINGLE, range(100), 2)

    def test_against_all_databases_with_a_key_of_one_column(self):
        self.against_all_databases(LONELY, range(300))

    def test_random_schemes(self):
        words = []
        for seed in range(500):
            chosen = dice(seed)
            scheme = random_scheme(chosen, 4, 4)
            query = random_query(chosen, scheme, 4)
            change = random_change(chosen, scheme)
            if count_cases(scheme, query, change[1]) <= 300:
                words.append(self.decision(scheme, query, change))
        self.assertGreater(min(words.count("can"), words.count("never")), 50)

    def test_new_lists(self):
        for query, change in ((BIG, PUT_SMALL), (BIG, PUT_BIG)):
            first = decide(SCHEME, query, change)[1]
            kept = copy.deepcopy(first)
            for some in first:
                if isinstance(some, list):
                    some.append(None)
            self.assertEqual(decide(SCHEME, query, change)[1], kept)
            lists = [some for some in decide(SCHEME, query, change)[1] if isinstance(some, list)]
            self.assertEqual(len({id(some) for some in lists}), len(lists))


class TestIsCounterexample(Decisions):
    def wrong(self, *values, change=PUT_BIG):
        for value in values:
            self.assertIs(is_counterexample(SCHEME, BIG, change, value), False, value)

    def test_example(self):
        self.assertIs(is_counterexample(SCHEME, BIG, PUT_BIG, SHOWN), True)

    def test_one_thing_changed(self):
        tables, values, before, after = SHOWN
        for database in (((), ()), (((3, 4),), ()), (((4, 5),), ()), (((3, 5),), ((5, 3, 600),)), (((3, 5),),),
                         (((3, 10),), ()), [((3, 5),), ()], ([(3, 5)], ()), None):
            self.wrong((database, values, before, after))
        for other in ((), (4,), (100,), (3, 3), [3], (True,), (None,), None, 3):
            self.wrong((tables, other, before, after))
        self.wrong((tables, values, [(5,)], after), (tables, values, before, []), (tables, values, after, before),
                   (tables, values, before, [(6,)]), (tables, values, before, [(5,), (5,)]), (tables, values, [()], after),
                   (tables, values, (), after), (tables, values, before, ((5,),)), (tables, values, before, [[5]]),
                   (tables, values, before, [(5, 5)]), (tables, values, before, [5]), (tables, values, None, after))

    def test_a_database_may_have_more_than_it_needs(self):
        rows = (((3, 5), (4, 9)), ((1, 3, 500), (2, 4, 499), (9, 4, 1000)))
        self.assertIs(is_counterexample(SCHEME, BIG, PUT_BIG, (rows, (3,), [(1,), (9,)], [(1,), (5,), (9,)])), True)
        self.assertIs(is_counterexample(SCHEME, BIG, PUT_BIG, (rows, (3,), [(9,), (1,)], [(1,), (5,), (9,)])), False)
        self.assertIs(is_counterexample(SCHEME, BIG, PUT_BIG, (rows, (3,), [(1,), (9,)], [(1,), (9,), (5,)])), False)

    def test_answers_of_one_length(self):
        full = (((3, 5),), ((5, 3, 600),))
        self.wrong((full, (3,), [(5,)], [(5,)]), (((), ()), (3,), [], []))
        query = (((1, (0, 1, 2)),), (), ())
        self.assertIs(is_counterexample(SCHEME, query, ("delete", 1, (5,), ()), (full, (), [()], [])), True)
        self.assertIs(is_counterexample(SCHEME, query, ("delete", 1, (5,), ()), (full, (), [], [()])), False)
        self.assertIs(is_counterexample(SCHEME, query, ("delete", 1, (6,), ()), (full, (), [()], [()])), False)

    def test_29_rows_and_30_in_the_changed_table(self):
        query = (((1, (0, 1, 2)),), ((2, None, 0),), (0,))
        change = ("delete", 1, ("a",), ())
        for many, expected in ((29, True), (30, False)):
            database = (((3, 5),), tuple((n, 3, 0 if n == 5 else 1) for n in range(many)))
            self.assertIs(is_counterexample(SCHEME, query, change, (database, (5,), [(5,)], [])), expected)
        database = (tuple((n, 5) for n in range(30)), ((5, 3, 0),))
        self.assertIs(is_counterexample(SCHEME, query, change, (database, (5,), [(5,)], [])), True)

    def test_values_must_make_the_change_plain(self):
        change = ("insert", 1, (5, "a", "b"), (("a", None, 3), (None, "b", -600)))
        tables, _, before, after = SHOWN
        self.assertIs(is_counterexample(SCHEME, BIG, change, (tables, (3, 600), before, after)), True)
        self.wrong((tables, (3, 599), before, after), (tables, (600, 3), before, after), change=change)
        four = (((4, 5),), ())
        self.wrong((four, (4, 600), before, after), change=change)

    def test_lengths_and_kinds(self):
        self.wrong(SHOWN[:3], (*SHOWN, ()), list(SHOWN), (), *misshapen(SHOWN))

    def test_truths(self):
        change = ("insert", 1, (1, 0, "a"), ())
        query = (((1, (0, 1, 2)),), (), (0, 1))
        shown = ((((0, 1), (1, 1)), ((0, 1, 1),)), (1,), [(0, 1)], [(0, 1), (1, 0)])
        self.assertIs(is_counterexample(SCHEME, query, change, shown), True)
        for value in misshapen(shown):
            self.assertIs(is_counterexample(SCHEME, query, change, value), False, value)

    def test_any_value(self):
        self.wrong(*OTHERS)
        for value in replaced_by_others(SHOWN):
            self.assertIn(is_counterexample(SCHEME, BIG, PUT_BIG, value), (True, False))

    def test_told_ones_for_other_changes(self):
        self.wrong(SHOWN, change=("insert", 1, (6, "a", 600), ()))
        self.wrong(SHOWN, change=("insert", 1, (5, "a", 499), ()))
        self.wrong(SHOWN, change=("delete", 1, ("a",), ()))


class TestIsRefutation(unittest.TestCase):
    def wrong(self, *values):
        for value in values:
            self.assertIs(is_refutation(SCHEME, BIG, PUT_SMALL, value), False, value)

    def right(self, *values):
        for value in values:
            self.assertIs(is_refutation(SCHEME, BIG, PUT_SMALL, value), True, value)

    def test_example(self):
        self.right(BARS)

    def test_one_thing_changed(self):
        one, other = BARS
        self.wrong([other, one], [one], [other], [one, one], [one, other, other], [*BARS, []], [], [[], []], [one, []])
        self.wrong([one[:1], other], [one[1:], other], [one * 2 + one[:1], other], [[*one, one[0]], other])

    def test_turned_about_and_twice(self):
        one, other = BARS
        self.right([one[::-1], other], [one, other[::-1]], [one * 2, other])

    def test_longer_bars(self):
        one, other = BARS
        around = [("takes", 1, 0, 1), ("reference apart", 0, 0), ("row high", 0), ("row low", 0)]
        self.wrong([around, other])
        self.wrong([[("takes", 1, 0, 0), ("takes", 1, 0, 1)], other])
        query = (((0, (0, 1)),), ((0, None, 3), (None, 0, -4), (1, 1 - 1, 9)), ())
        change = ("insert", 0, (3, "a"), ())
        for bar in ([("constraint", 0), ("constraint", 1)], [("constraint", 1), ("constraint", 0)],
                    [("constraint", 1), ("takes", 0, 0, 0), ("value", 0, 0)],
                    [("constraint", 1), ("constraint", 0)] * 3):
            self.assertIs(is_refutation(SCHEME, query, change, [bar]), True)
        for bar in ([("constraint", 0)], [("constraint", 1), ("takes", 0, 0, 1), ("value", 0, 0)],
                    [("constraint", 1), ("value", 0, 0)], [("constraint", 1), ("takes", 0, 0, 0), ("value", 0, 1)],
                    [("constraint", 1), ("high", 0, 0)], [("constraint", 1), ("constraint", 3)]):
            self.assertIs(is_refutation(SCHEME, query, change, [bar]), False)

    def test_lengths_kinds_and_truths(self):
        self.wrong(*misshapen(BARS))
        self.wrong([tuple(BARS[0]), BARS[1]], tuple(BARS), [[list(reason) for reason in BARS[0]], BARS[1]])

    def test_any_value(self):
        self.wrong(*OTHERS)
        for value in replaced_by_others(BARS):
            self.assertIs(is_refutation(SCHEME, BIG, PUT_SMALL, value), False)

    def test_no_case(self):
        query = (((0, (0, 1)),), (), ())
        change = ("delete", 1, ("a",), ())
        self.assertIs(is_refutation(SCHEME, query, change, []), True)
        for value in ([[]], (), None, {}, [[("low", 0, 0)]]):
            self.assertIs(is_refutation(SCHEME, query, change, value), False)

    def test_told_ones_for_other_changes(self):
        found = decide(SCHEME, BIG, ("insert", 1, (5, 3, "a"), (("a", None, 499),)))[1]
        self.assertIs(is_refutation(SCHEME, BIG, ("insert", 1, (5, 3, "a"), (("a", None, 499),)), found), True)
        self.assertIs(is_refutation(SCHEME, BIG, ("insert", 1, (5, 3, "a"), (("a", None, 500),)), found), False)
        self.assertIs(is_refutation(SCHEME, BIG, ("insert", 1, (5, 3, "a"), ()), found), False)
        self.assertIs(is_refutation(SCHEME, BIG, ("insert", 1, (5, 3, 499), ()), found), False)

    def test_arguments_are_as_before(self):
        value = copy.deepcopy(BARS)
        is_refutation(SCHEME, BIG, PUT_SMALL, value)
        self.assertEqual(value, BARS)
        shown = copy.deepcopy(SHOWN)
        is_counterexample(SCHEME, BIG, PUT_BIG, shown)
        self.assertEqual(shown, SHOWN)
        self.assertEqual(DATA, (((3, 5),), ((5, 3, 600),)))
