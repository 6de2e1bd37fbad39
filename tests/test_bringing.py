import copy
import unittest

import oracle
from samples import (
    CROSSED, KEYED, LINE, OTHERS, PAIRS, PUT, SCHEME, SECOND, SERVED, SQUARES, TWICE, UP, dice, lists_in, misshapen,
    random_change, random_query, random_scheme, replaced_by_others, same, spoilt)
from watchzones.bringing import decide_output, is_decision
from watchzones.cases import cases, count_cases
from watchzones.databases import carried_out, is_database, made_plain
from watchzones.decisions import decide
from watchzones.errors import TooManyCases
from watchzones.queries import is_query
from watchzones.trees import is_tree
from watchzones.watchererrors import TooWide
from watchzones.widening import widened

# A query with 253 cases, and the same with as many parts as there may be.
KEYS = ((((0, 3), (0, 3)), (0, 1), ()), (((0, 3),), (0,), ()))
MANY = (((0, (0, 1)), (0, (0, 2)), (0, (0, 3))), ((1, 2, 0), (2, 3, 0)), (0,))
MANY_AND_ONE = (MANY[0] + ((1, (1,)),), MANY[1], (0, 1))
# 945 cases of a table, 320 of another, and none of tables that no part is of.
FOUR = (tuple((0, (p,)) for p in range(4)), (), (0,))
SPREAD = ((((0, 3),), (0,), ()), (((0, 3), (0, 3)), (0, 1), (((0,), 0), ((1,), 0))), (((0, 3), (0, 3)), (0, 1), (((0,), 0), ((1,), 0))))
WIDENED = (((0, (4,)), (1, (0, 1))), (), (0, 1))
TOO_WIDE = (((0, (4,)), (1, (0, 1)), (1, (2, 3))), (), ())


class Decisions(unittest.TestCase):
    """What decide_output returns is right by carrying the change out, or by a walk through each tree."""

    def decides(self, scheme, query, change, wanted):
        kept = copy.deepcopy((scheme, query, change, wanted))
        found = decide_output(scheme, query, change, wanted)
        self.assertIs(type(found), tuple)
        self.assertIs(is_decision(scheme, query, change, wanted, found), True)
        self.assertIs(self.is_right(scheme, query, change, wanted, found), True)
        if found[0] == "never":
            for case, tree in zip(cases(scheme, widened(scheme, query), change[1]), found[1]):
                self.assertIs(oracle.Case(scheme, query, change, wanted, case).is_tree(tree), True)
        self.assertTrue(same((scheme, query, change, wanted), kept))
        again = decide_output(*kept)
        self.assertTrue(same(again, found))
        every = lists_in(found) + lists_in(again)
        self.assertEqual(len({id(some) for some in every}), len(every))
        spoilt(again)
        self.assertTrue(same(decide_output(scheme, query, change, wanted), found))
        return found[0]

    def is_right(self, scheme, query, change, wanted, value):
        """What [24] says of a value, without the functions under test."""
        if type(value) is not tuple or not value or type(value[0]) is not str:
            return False
        if value[0] == "can" and len(value) == 3:
            _, database, values = value
            if not is_database(scheme, database) or len(database[change[1]]) > 29:
                return False
            plain = made_plain(scheme, change, values)
            if plain is None:
                return False
            before = set(oracle.outputs(scheme, query, database))
            behind = set(oracle.outputs(scheme, query, carried_out(scheme, database, plain)[0]))
            return before != behind if wanted is None else (wanted in before) != (wanted in behind)
        found = cases(scheme, widened(scheme, query), change[1])
        if value[0] != "never" or len(value) != 2 or type(value[1]) is not list or len(value[1]) != len(found):
            return False
        return all(is_tree(scheme, query, change, wanted, case, tree) for case, tree in zip(found, value[1]))


class TestDecideOutput(Decisions):
    def test_examples(self):
        self.assertEqual(self.decides(PAIRS, UP, PUT, (1,)), "can")
        self.assertEqual(self.decides(PAIRS, SECOND, PUT, (1,)), "never")
        self.assertEqual(decide(PAIRS, SECOND, PUT)[0], "can")
        self.assertEqual(self.decides(SCHEME, SERVED, ("insert", 0, (4, 9), ()), ()), "never")
        self.assertEqual(self.decides(PAIRS, UP, ("delete", 0, (1, "a"), ()), (2,)), "never")
        self.assertIs(is_decision(PAIRS, UP, PUT, (1,), ("can", ((),), ())), True)

    def test_repetitions_do_not_count(self):
        # Another row with the same output is needed for the query to have one at all.
        query = (((0, (0, 1)), (0, (0, 2))), ((1, 2, -1),), (0,))
        for wanted in (None, (1,)):
            self.assertEqual(self.decides(PAIRS, query, PUT, wanted), "can")
        query = (((0, (0, 1)),), (), ())
        for word in ("insert", "delete"):
            self.assertEqual(self.decides(PAIRS, query, (word, 0, (1, 1), ()), None), "can")
        # A row can be left out where another one serves as well.
        query = (((0, (0, 1)), (0, (0, 2))), ((2, None, 0),), (0,))
        self.assertEqual(self.decides(PAIRS, query, ("insert", 0, (1, 1), ()), None), "never")
        self.assertEqual(self.decides(PAIRS, query, ("insert", 0, (1, 0), ()), None), "can")
        self.assertEqual(decide(PAIRS, query, ("insert", 0, (1, 1), ()))[0], "can")

    def test_references(self):
        query = (((1, (0, 1, 2)), (0, (3, 4))), (), (3,))
        self.assertEqual(self.decides(SCHEME, query, ("insert", 0, (4, 9), ()), (4,)), "can")
        self.assertEqual(self.decides(SCHEME, query, ("insert", 0, (4, 9), ()), (5,)), "never")
        self.assertEqual(self.decides(SCHEME, query, ("delete", 0, (4,), ()), (4,)), "can")
        # The row to which the way refers cannot be taken out, nor the only one.
        query = (((1, (0, 1, 2)), (0, (1, 4))), (), (4,))
        for wanted in (None, (7,)):
            self.assertEqual(self.decides(SCHEME, query, ("delete", 0, ("a",), ()), wanted), "never")
            self.assertEqual(self.decides(SCHEME, query, ("insert", 0, ("a", 7), ()), wanted), "never")
            self.assertEqual(self.decides(SCHEME, query, ("insert", 1, ("a", "b", "c"), ()), wanted), "can")

    def test_wanted_beyond_the_bounds(self):
        for wanted in ((-1,), (3,), (10 ** 30,), (-10 ** 30,)):
            for word in ("insert", "delete"):
                self.assertEqual(self.decides(PAIRS, UP, (word, 0, ("a", "b"), ()), wanted), "never")

    def test_parameters_and_conditions(self):
        for wanted, conditions, word in (
                ((1,), (), "can"), ((1,), (("a", None, 0),), "never"), ((1,), (("a", None, 1),), "can"),
                ((1,), (("b", "a", -2),), "never"), (None, (("b", "a", -2),), "can"), (None, (("b", "a", -3),), "never"),
                (None, (("a", "b", -1), ("b", "a", 0)), "never")):
            self.assertEqual(self.decides(PAIRS, UP, ("insert", 0, ("a", "b"), conditions), wanted), word, conditions)
        found = decide_output(PAIRS, UP, ("insert", 0, ("d", "b"), (("d", "b", -2),)), None)
        self.assertEqual((found[0], found[2]), ("can", (2, 0)))

    def test_a_table_that_no_part_is_of(self):
        query = (((0, (0, 1)),), (), (0,))
        for wanted in (None, (3,)):
            self.assertEqual(decide_output(SCHEME, query, ("insert", 1, ("a", "b", 5), ()), wanted), ("never", []))
            self.assertIs(is_decision(SCHEME, query, ("delete", 1, (3,), ()), wanted, ("never", [])), True)

    def against_all_databases(self, scheme, seeds, parts, changes=3):
        databases = list(oracle.all_databases(scheme))
        words = []
        for seed in seeds:
            chosen = dice(seed)
            query = random_query(chosen, scheme, parts, 4)
            query = (query[0], query[1][:chosen.randint(0, 3)], query[2][:chosen.randint(0, 2)])
            if len(oracle.wide_parts(scheme, query)) > 4:
                continue
            movements = oracle.Movements(scheme, databases, query)
            low, high = (oracle.all_rows(scheme[0][0]))[0][0] - 1, 4
            others = [tuple(chosen.randint(low, high) for _ in query[2]) for _ in range(2)]
            for _ in range(changes):
                change = random_change(chosen, scheme)
                if count_cases(scheme, widened(scheme, query), change[1]) > 300:
                    continue
                found = {wanted: self.decides(scheme, query, change, wanted) for wanted in [None, *movements.outputs, *others]}
                for wanted, word in found.items():
                    self.assertEqual(word == "can", movements.mattering(change, wanted) != set(), (seed, query, change, wanted))
                # For None it can exactly if it can for some output.
                own = [word for wanted, word in found.items() if wanted is not None]
                self.assertEqual(found[None] == "can", "can" in own)
                words += own
        self.assertGreater(min(words.count("can"), words.count("never")), len(words) // 30)

    def test_against_all_databases_with_keys_of_two_columns(self):
        self.against_all_databases(SQUARES, range(150), 2)
        self.against_all_databases(SQUARES, range(25), 3, 1)

    def test_against_all_databases_with_a_key_of_one_column(self):
        self.against_all_databases(LINE, range(60), 3)
        self.against_all_databases(KEYED, range(40), 3)

    def test_against_all_databases_with_a_reference_in_another_order(self):
        self.against_all_databases(CROSSED, range(60), 2, 2)

    def test_against_all_databases_with_two_references(self):
        self.against_all_databases(TWICE, range(60), 2, 2)

    def test_random_schemes(self):
        words = []
        for seed in range(350):
            chosen = dice(seed)
            scheme = chosen.choice((random_scheme(chosen, 4, 4), CROSSED, TWICE))
            query, change = random_query(chosen, scheme, 4), random_change(chosen, scheme)
            query = (query[0], query[1][:1], query[2][:1])
            if len(oracle.wide_parts(scheme, query)) > 4 or count_cases(scheme, widened(scheme, query), change[1]) > 300:
                continue
            wanted = None if chosen.random() < 0.5 else tuple(chosen.randint(-1, 2) for _ in query[2])
            words.append(self.decides(scheme, query, change, wanted))
        self.assertGreater(min(words.count("can"), words.count("never")), 40)

    def test_what_can_be_altered_at_all_is_a_condition(self):
        # Repetitions count in answers: what can move the set can alter the answer.
        seen = {True: 0, False: 0}
        for seed in range(300):
            chosen = dice(seed)
            query, change = random_query(chosen, PAIRS, 3, 4), random_change(chosen, PAIRS)
            if decide_output(PAIRS, query, change, None)[0] == "can":
                self.assertEqual(decide(PAIRS, query, change)[0], "can")
            else:
                seen[decide(PAIRS, query, change)[0] == "can"] += 1
        self.assertGreater(min(seen.values()), 5)


class TestLimits(Decisions):
    def raises(self, kind, name, held, scheme, query, change):
        self.assertIs(is_query(scheme, query), True)
        wanted = tuple(1 for _ in query[2])
        for some in (None, wanted):
            with self.assertRaises(kind) as caught:
                decide_output(scheme, query, change, some)
            self.assertEqual(vars(caught.exception), {name: held})
            for value in [*OTHERS, ("never", []), ("can", tuple(() for _ in scheme), ())]:
                with self.assertRaises(kind) as caught:
                    is_decision(scheme, query, change, some, value)
                self.assertEqual(vars(caught.exception), {name: held})

    def test_too_many_cases(self):
        for change in (("insert", 0, ("a",), ()), ("insert", 0, (2,), ()), ("delete", 0, (9,), ())):
            self.raises(TooManyCases, "number", 945, LINE, FOUR, change)

    def test_cases_of_the_wide_query(self):
        self.assertEqual([count_cases(SPREAD, WIDENED, table) for table in range(3)], [4, 1, 0])
        self.assertEqual([count_cases(SPREAD, widened(SPREAD, WIDENED), table) for table in range(3)], [172, 27, 0])
        self.assertEqual(self.decides(SPREAD, WIDENED, ("insert", 0, ("a",), ()), None), "never")
        # The query itself has few cases, the wide query has too many.
        keys = (((0, 3), (0, 3)), (0, 1), ())
        scheme = (keys, (((0, 3),) * 4, (0,), (((0, 1), 0), ((2, 3), 0))))
        query = (((1, (0, 1, 2, 3)), (0, (4, 5))), (), (4,))
        self.assertEqual([count_cases(scheme, query, table) for table in (0, 1)], [16, 1])
        numbers = [count_cases(scheme, widened(scheme, query), table) for table in (0, 1)]
        self.assertEqual(numbers, [16 * (3 * 5 * 16 + 3 * 4 + 1), 125])
        for word in ("insert", "delete"):
            self.raises(TooManyCases, "number", numbers[0], scheme, query, (word, 0, (1, 1), ()))
        self.assertEqual(self.decides(scheme, query, ("insert", 1, (1, 2, 1, 0), ()), None), "can")
        self.assertEqual(self.decides(scheme, query, ("insert", 1, (1, 2, 1, 0), ()), (1,)), "can")

    def test_too_wide(self):
        for change in (("insert", 0, ("a",), ()), ("delete", 1, (1, 2), ()), ("insert", 2, (0, 0), ())):
            self.raises(TooWide, "query", TOO_WIDE, SPREAD, TOO_WIDE, change)

    def test_too_wide_ahead_of_too_many_cases(self):
        scheme = (KEYS[0], (((0, 3), (0, 3)), (0,), (((0, 1), 0),)))
        query = (((0, (4, 5)), (0, (6, 7)), (0, (8, 9)), (1, (0, 1))), (), ())
        self.assertGreater(count_cases(scheme, query, 0), 300)
        self.raises(TooWide, "query", query, scheme, query, ("insert", 0, (1, 1), ()))

    def test_only_the_cases_of_the_changed_table_count(self):
        scheme = (*LINE, (((0, 3),), (0,), ()))
        for wanted in (None, (1,)):
            self.assertEqual(decide_output(scheme, FOUR, ("insert", 1, (2,), ()), wanted), ("never", []))
            self.assertIs(is_decision(scheme, FOUR, ("insert", 1, (2,), ()), wanted, ("never", [])), True)

    def test_as_many_parts_and_cases_as_there_may_be(self):
        self.assertEqual([count_cases(KEYS, query, 0) for query in (MANY, MANY_AND_ONE)], [253, 253])
        for query in (MANY, MANY_AND_ONE):
            words = set()
            for change in (("insert", 0, ("a", "b"), ()), ("insert", 0, (1, 2), ()), ("delete", 0, (3, "d"), ())):
                for wanted in (None, tuple(1 for _ in query[2]), tuple(3 for _ in query[2])):
                    words.add(self.decides(KEYS, query, change, wanted))
            self.assertEqual(words, {"can", "never"})

    def test_256_cases(self):
        keys = (((0, 3), (0, 3)), (0, 1), ())
        once = (((0, 3), (0, 3), (0, 3)), (0,), (((0, 1), 0),))
        twice = (((0, 3), (0, 3), (0, 3)), (0,), (((0, 1), 0), ((1, 2), 0)))
        scheme = (keys, once, once, twice)
        # All references are served by one part, so there is no other one of the table.
        query = (((0, (2, 2)), (1, (2, 2, 4)), (2, (2, 2, 7)), (3, (2, 2, 2))), (), ())
        self.assertEqual(widened(scheme, query), query)
        self.assertEqual(count_cases(scheme, query, 0), 256)
        for word in ("insert", "delete"):
            self.assertEqual(self.decides(scheme, query, (word, 0, (2, 2), ()), ()), "never")
        self.assertEqual(self.decides(scheme, query, ("insert", 3, ("a", "a", "a", ), ()), ()), "can")


class TestIsDecision(Decisions):
    def decision(self, told, value, right):
        kept = copy.deepcopy(value)
        self.assertIs(is_decision(*told, value), right, (told, value))
        self.assertIs(self.is_right(*told, value), right)
        self.assertTrue(same(value, kept))

    def test_databases(self):
        told = (PAIRS, UP, PUT, (1,))
        self.decision(told, ("can", ((),), ()), True)
        self.decision(told, ("can", (((0, 0),),), ()), True)
        self.decision(told, ("can", (((1, 0), ),), ()), False)
        self.decision(told, ("can", (((1, 1), ),), ()), False)
        self.decision(told, ("can", ((), ()), ()), False)
        self.decision(told, ("can", (((0, 3),),), ()), False)
        self.decision(told, ("can", (((2, 0), (0, 0)),), ()), False)
        self.decision(told, ("can", [()], ()), False)
        self.decision(told, ("can", ((),), (1,)), False)
        self.decision(told, ("can", ((),), []), False)
        self.decision(told, ("can", ((),), None), False)
        self.decision(told, ("can", ((),)), False)
        self.decision(told, ("can", ((),), (), ()), False)
        self.decision(told, ("never", ((),), ()), False)
        self.decision(told, ["can", ((),), ()], False)
        self.decision((PAIRS, UP, PUT, (0,)), ("can", ((),), ()), False)
        self.decision((PAIRS, UP, PUT, None), ("can", ((),), ()), True)
        self.decision((PAIRS, UP, PUT, None), ("can", (((1, 2),),), ()), False)
        self.decision((PAIRS, SECOND, PUT, None), ("can", (((1, 2),),), ()), False)

    def test_at_most_29_rows_in_the_changed_table(self):
        scheme = ((((0, 99),), (0,), ()), (((0, 99),), (0,), ()))
        query = (((0, (0,)),), (), (0,))
        rows = tuple((n,) for n in range(31))
        for many, right in ((28, True), (29, True), (30, False), (31, False)):
            self.decision((scheme, query, ("insert", 0, (50,), ()), (50,)), ("can", (rows[:many], ()), ()), right)
            self.decision((scheme, query, ("delete", 0, (3,), ()), (3,)), ("can", (rows[:many], ()), ()), right)
        for many, right in ((29, True), (30, True), (31, False)):
            self.decision((scheme, query, ("insert", 0, (50,), ()), (50,)), ("can", ((), rows[:many]), ()), right)

    def test_values(self):
        told = (PAIRS, UP, ("insert", 0, ("d", "b"), (("d", "b", 0),)), None)
        for values, right in (((0, 0), True), ((2, 1), True), ((1, 2), False), ((1, 1, 1), False), ((1,), False), ((), False),
                              ((3, 2), False), ((True, 1), False), ([0, 0], False), ((0, None), False), (("b", "d"), False)):
            self.decision(told, ("can", ((),), values), right)

    def test_trees(self):
        told = (PAIRS, UP, PUT, (2,))
        word, trees = decide_output(*told)
        self.assertEqual((word, len(trees)), ("never", 9))
        self.decision(told, ("never", trees), True)
        self.decision(told, ("never", trees[:8]), False)
        self.decision(told, ("never", trees[1:]), False)
        self.decision(told, ("never", [*trees, trees[8]]), False)
        self.decision(told, ("never", trees[::-1]), False)
        self.decision(told, ("never", tuple(trees)), False)
        self.decision(told, ("never", trees, ()), False)
        self.decision(told, ("never", []), False)
        self.decision(told, ("never",), False)
        self.decision(told, ["never", trees], False)
        self.decision(told, ("can", trees), False)
        self.decision(told, ("can", trees, ()), False)
        self.decision(told, ("none", trees), False)
        self.decision(told, (None, trees), False)
        self.decision(told, trees, False)
        for k in range(9):
            self.decision(told, ("never", trees[:k] + [[]] + trees[k + 1:]), False)
            self.decision(told, ("never", trees[:k] + [trees[k] * 2] + trees[k + 1:]), False)
            self.decision(told, ("never", trees[:k] + [tuple(trees[k])] + trees[k + 1:]), False)
            self.decision(told, ("never", trees[:k] + [None] + trees[k + 1:]), False)
        for j in range(9):
            for k in range(j):
                swapped = list(trees)
                swapped[j], swapped[k] = trees[k], trees[j]
                self.assertIs(is_decision(*told, ("never", swapped)), self.is_right(*told, ("never", swapped)))
        self.decision((PAIRS, UP, PUT, None), ("never", trees), False)
        self.decision((PAIRS, UP, PUT, (1,)), ("never", trees), False)

    def some(self):
        for scheme, query, change, wanted in (
                (PAIRS, UP, PUT, (1,)), (PAIRS, UP, ("insert", 0, ("a", 0), ()), None), (PAIRS, SECOND, PUT, (1,)),
                (SCHEME, SERVED, ("insert", 0, (4, 9), ()), ()), (SCHEME, SERVED, ("insert", 1, (1, 2, "c"), ()), ())):
            yield (scheme, query, change, wanted), decide_output(scheme, query, change, wanted)

    def test_changed_values(self):
        seen = {True: 0, False: 0}
        for told, found in self.some():
            for value in replaced_by_others(found):
                expected = self.is_right(*told, value)
                self.assertIs(is_decision(*told, value), expected, value)
                seen[expected] += 1
            for value in misshapen(found):
                self.assertIs(is_decision(*told, value), False, value)
        self.assertGreater(seen[False], 3000)

    def test_other_values(self):
        for told, _ in self.some():
            for value in [*OTHERS, "can", "never", ("can",), ("never",), ("never", []), ("can", (), ()), ("can", None, None),
                          ("never", None), [[]], {"can": 1}]:
                self.decision(told, value, False)
