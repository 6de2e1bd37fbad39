import copy
import unittest

import oracle
from samples import (
    BIG, CROSSED, DATA, PAIRS, SCHEME, TWICE, UP, dice, random_change, random_database, random_query, random_scheme, same)
from watchzones.databases import carried_out
from watchzones.queries import answer
from watchzones.repairs import effects
from watchzones.waynumbers import moved, numbers_of, set_answer

THREE = (((0, 1), (0, 2), (1, 1)),)


class TestSetsAndNumbers(unittest.TestCase):
    def has(self, scheme, query, database, expected):
        self.assertTrue(same(set_answer(scheme, query, database), sorted(expected)))
        numbers = numbers_of(scheme, query, database)
        self.assertIs(type(numbers), dict)
        self.assertEqual(numbers, expected)
        self.assertTrue(all(oracle.strict(number) for number in numbers.values()))

    def test_examples(self):
        self.has(PAIRS, UP, THREE, {(0,): 3, (1,): 1})

    def test_repetitions_count_in_numbers_only(self):
        every = (((0, (0, 1)), (0, (2, 3))), (), ())
        self.has(PAIRS, every, THREE, {(): 9})
        self.has(PAIRS, (every[0], (), (0,)), THREE, {(0,): 6, (1,): 3})
        self.has(PAIRS, (every[0], (), (0, 0)), THREE, {(0, 0): 6, (1, 1): 3})
        self.has(PAIRS, (every[0], (), (0, 3)), THREE, {(0, 1): 4, (0, 2): 2, (1, 1): 2, (1, 2): 1})
        self.has(SCHEME, BIG, DATA, {(5,): 1})

    def test_no_way(self):
        self.has(PAIRS, UP, ((),), {})
        self.has(SCHEME, BIG, ((), ()), {})
        self.has(PAIRS, (UP[0], ((1, None, -1),), ()), THREE, {})

    def test_against_loops_over_all_ways(self):
        several = 0
        for seed in range(500):
            chosen = dice(seed)
            scheme = chosen.choice((random_scheme(chosen), CROSSED, TWICE))
            query = random_query(chosen, scheme, 3, 12)
            query = (query[0], query[1][:chosen.randint(0, 1)], query[2])
            database = random_database(chosen, scheme, 8)
            kept = copy.deepcopy((scheme, query, database))
            found = oracle.outputs(scheme, query, database)
            self.has(scheme, query, database, {output: found.count(output) for output in found})
            self.assertEqual(sorted(found), answer(scheme, query, database))
            self.assertTrue(same((scheme, query, database), kept))
            several += len(found) > len(set(found)) > 1
        self.assertGreater(several, 50)

    def test_new_values(self):
        set_answer(PAIRS, UP, THREE).clear()
        numbers_of(PAIRS, UP, THREE).clear()
        self.has(PAIRS, UP, THREE, {(0,): 3, (1,): 1})


class TestMoved(unittest.TestCase):
    def moves(self, known, gained, lost, behind, brought, taken):
        kept = copy.deepcopy((known, gained, lost))
        found = moved(known, gained, lost)
        self.assertIs(type(found), tuple)
        self.assertEqual(found, (behind, brought, taken))
        self.assertTrue(same((known, gained, lost), kept))
        self.assertEqual(len({id(some) for some in [*found, known, gained, lost]}), 6)
        return found

    def test_example(self):
        self.moves({(0,): 3, (1,): 1}, [(2,), (2,)], [(0,), (1,)], {(0,): 2, (2,): 2}, [(2,)], [(1,)])

    def test_nothing(self):
        self.moves({}, [], [], {}, [], [])
        self.moves({(4,): 2}, [], [], {(4,): 2}, [], [])

    def test_outputs_that_come(self):
        self.moves({}, [()], [], {(): 1}, [()], [])
        self.moves({}, [(1,), (1,), (1,)], [], {(1,): 3}, [(1,)], [])
        self.moves({(3,): 1}, [(1,), (2,), (3,), (4,)], [], {(1,): 1, (2,): 1, (3,): 2, (4,): 1}, [(1,), (2,), (4,)], [])

    def test_outputs_that_go(self):
        self.moves({(): 1}, [], [()], {}, [], [()])
        self.moves({(9,): 2, (5,): 1, (7,): 3}, [], [(5,), (7,), (9,), (9,)], {(7,): 2}, [], [(5,), (9,)])

    def test_outputs_that_stay_with_another_number(self):
        self.moves({(0,): 3, (1,): 2}, [], [(0,), (0,), (1,)], {(0,): 1, (1,): 1}, [], [])
        self.moves({(0,): 3, (1,): 2}, [(0,), (1,), (1,)], [], {(0,): 4, (1,): 4}, [], [])

    def test_lists_are_ascending_whatever_the_order_of_the_keys(self):
        known = {(5,): 1, (1,): 1, (3,): 1}
        self.moves(known, [], [(1,), (3,), (5,)], {}, [], [(1,), (3,), (5,)])
        self.moves(known, [(0,), (2,), (7,)], [(1,), (5,)], {(3,): 1, (0,): 1, (2,): 1, (7,): 1}, [(0,), (2,), (7,)], [(1,), (5,)])

    def test_gained_and_lost(self):
        self.moves({(1,): 1}, [(1,)], [(1,)], {(1,): 1}, [], [])

    def test_what_is_returned_may_be_changed(self):
        known = {(0,): 3}
        behind, brought, taken = moved(known, [(1,)], [(0,)])
        behind[(0,)] = 9
        brought.clear()
        taken.append((2,))
        self.assertEqual(known, {(0,): 3})
        self.moves(known, [(1,)], [(0,)], {(0,): 2, (1,): 1}, [(1,)], [])

    def test_effects_of_changes(self):
        kinds = {"nothing": 0, "brought": 0, "taken": 0, "stays": 0}
        for seed in range(600):
            chosen = dice(seed)
            scheme = chosen.choice((random_scheme(chosen), CROSSED, TWICE))
            query = random_query(chosen, scheme)
            database = random_database(chosen, scheme)
            for _ in range(4):
                change = random_change(chosen, scheme, plain=True)
                known = numbers_of(scheme, query, database)
                gained, lost = effects(scheme, query, database, change)
                behind, hindrance = carried_out(scheme, database, change)
                before, after = set(oracle.outputs(scheme, query, database)), set(oracle.outputs(scheme, query, behind))
                self.moves(known, gained, lost, numbers_of(scheme, query, behind), sorted(after - before), sorted(before - after))
                kinds["nothing"] += hindrance is not None
                kinds["brought"] += after > before
                kinds["taken"] += after < before
                kinds["stays"] += after == before and (gained, lost) != ([], [])
                database = behind
        self.assertGreater(min(kinds.values()), 30, kinds)
